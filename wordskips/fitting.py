"""Where words can still stand, for many knowns of one width."""

from wordskips.words import fits


class Fitting:
    """Words of one length; for each end of a known it is worked out only once whether one of them can stand there."""

    def __init__(self, words):
        self._words = tuple(words)
        self._found = {}

    def can(self, known, offset):
        """Whether some word can stand at this offset of the window."""
        rest = known[offset:]
        if rest not in self._found:
            self._found[rest] = any([fits(rest, word, 0) for word in self._words])
        return self._found[rest]

    def least(self, known, low):
        """The least offset, from low on, at which some word can stand."""
        offset = low
        while not self.can(known, offset):
            offset += 1
        return offset
