"""Questions about values that may be anything."""


def is_list(value):
    """Whether a value may be passed where a list is described."""
    return isinstance(value, (list, tuple))


def is_integer(value):
    """Whether a value is an integer; True and False are none."""
    return isinstance(value, int) and not isinstance(value, bool)


def is_whole(value, low, high):
    """Whether a value is an integer from low to high."""
    return is_integer(value) and low <= value <= high


def are_letters(value):
    """Whether a value is a string of 2 to 4 different small letters."""
    if not isinstance(value, str) or not 2 <= len(value) <= 4:
        return False
    return all(["a" <= sign <= "z" for sign in value]) and len(set(value)) == len(value)


def wrong_sign(letters, text):
    """The place of the first sign of a text that is none of the letters, None if there is none."""
    if not isinstance(text, str):
        return 0
    for place, sign in enumerate(text):
        if sign not in letters:
            return place
    return None


def wrong_word(letters, words):
    """The place of the first wrong one of the words, None if all are right."""
    if not is_list(words) or len(words) == 0:
        return 0
    for place, word in enumerate(words[:3]):
        if not _is_word(letters, word) or len(word) != len(words[0]) or word in words[:place]:
            return place
    return 3 if len(words) > 3 else None


def is_wish(value):
    """Whether a value is one of the three wishes."""
    return isinstance(value, str) and value in ("all", "apart", "first")


def is_table(value, keys):
    """Whether a value is a dict from just these keys, which are those of a dict."""
    return isinstance(value, dict) and len(value) == len(keys) and all([key in value for key in keys])


def copied(value):
    """A copy of a dict; any other value itself."""
    return {key: value[key] for key in value} if isinstance(value, dict) else value


def _is_word(letters, value):
    return isinstance(value, str) and 1 <= len(value) <= 8 and wrong_sign(letters, value) is None
