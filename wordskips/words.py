"""Letters, words, and what is known of a window."""

from wordskips.checks import are_letters, is_wish, wrong_sign, wrong_word
from wordskips.errors import BadLetters, BadText, BadWish, BadWords


def check_words(letters, words):
    """Raise BadLetters or BadWords unless these are letters and words of them."""
    if not are_letters(letters):
        raise BadLetters(letters)
    place = wrong_word(letters, words)
    if place is not None:
        raise BadWords(place)


def wanted(letters, words, text, wish="all"):
    """The pairs (place, number of the word) that a search for the words should tell in a text."""
    check_words(letters, words)
    place = wrong_sign(letters, text)
    if place is not None:
        raise BadText(place)
    if not is_wish(wish):
        raise BadWish(wish)
    found = _standing(words, text)
    if wish == "first":
        return found[:1]
    if wish == "apart":
        return _apart(found, len(words[0]))
    return found


def fits(known, word, offset):
    """Whether the word can stand at this offset of a window of which this is known."""
    signs = known[offset:offset + len(word)]
    return all([sign == "." or sign == letter for sign, letter in zip(signs, word)])


def slid(known, by):
    """What is known when the window has slid by so many places."""
    return known[by:] + "." * min(by, len(known))


def _standing(words, text):
    """The pairs (place, number) of all places at which a word stands, ascending."""
    numbers = {word: number for number, word in enumerate(words)}
    size = len(words[0])
    found = []
    for place in range(len(text) - size + 1):
        part = text[place:place + size]
        if part in numbers:
            found.append((place, numbers[part]))
    return found


def _apart(found, size):
    """Those of the pairs, from the first one on, whose words do not overlap the one taken before."""
    taken = []
    end = 0
    for place, number in found:
        if place >= end:
            taken.append((place, number))
            end = place + size
    return taken
