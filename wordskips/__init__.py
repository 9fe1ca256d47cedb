"""Searching for words by sliding windows, judged for all texts."""
