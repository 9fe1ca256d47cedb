"""All errors of the package."""


class SkipsError(ValueError):
    """What every error of the package is."""


class BadLetters(SkipsError):
    """A value that is no letters."""

    def __init__(self, letters):
        SkipsError.__init__(self, "letters are 2 to 4 different small letters from a to z")
        self.letters = _kept(letters)


class BadWords(SkipsError):
    """Words of which the one at this place is wrong."""

    def __init__(self, place):
        SkipsError.__init__(self, "words are 1 to 3 different strings of letters, all of one length from 1 to 8")
        self.place = _kept(place)


class BadText(SkipsError):
    """A text whose sign at this place is none of the letters."""

    def __init__(self, place):
        SkipsError.__init__(self, "a text is a string of the letters")
        self.place = _kept(place)


class BadWish(SkipsError):
    """A value that is no wish."""

    def __init__(self, wish):
        SkipsError.__init__(self, "a wish is one of all, apart, first")
        self.wish = _kept(wish)


class BadWidth(SkipsError):
    """A value that is no width."""

    def __init__(self, width):
        SkipsError.__init__(self, "a width is an integer from 1 to 8")
        self.width = _kept(width)


class TooMany(SkipsError):
    """More things of one kind than are taken, or too few of them."""

    def __init__(self, what, many, most):
        SkipsError.__init__(self, "there are more of them than are taken, or none")
        self.what = _kept(what)
        self.many = _kept(many)
        self.most = _kept(most)


class BadTree(SkipsError):
    """A state in whose tree the part with this number is the first wrong one."""

    def __init__(self, state, node):
        SkipsError.__init__(self, "the tree of a state has a wrong part")
        self.state = _kept(state)
        self.node = _kept(node)


class BadLine(SkipsError):
    """A text of a searcher in which this line is the first wrong one."""

    def __init__(self, line):
        SkipsError.__init__(self, "the text of a searcher has a wrong line")
        self.line = _kept(line)


class BadWay(SkipsError):
    """A value that is no way in which searchers are made."""

    def __init__(self, way):
        SkipsError.__init__(self, "there is no such way to make a searcher")
        self.way = _kept(way)


class OtherLetters(SkipsError):
    """Two things whose letters, or their order, differ."""


class OtherWidth(SkipsError):
    """Two searchers whose widths differ."""


class BadRule(SkipsError):
    """A rule whose name or parts are wrong."""

    def __init__(self, name):
        SkipsError.__init__(self, "a rule is a name with a list of 1 to 8 pairs of a part and a count")
        self.name = _kept(name)


class Ring(SkipsError):
    """A name that stands within itself."""

    def __init__(self, name):
        SkipsError.__init__(self, "a name stands within itself")
        self.name = _kept(name)


class NoRule(SkipsError):
    """A root that is none of the names."""

    def __init__(self, root):
        SkipsError.__init__(self, "the root has no rule")
        self.root = _kept(root)


class BadPlace(SkipsError):
    """A number that is no place here."""

    def __init__(self, number):
        SkipsError.__init__(self, "there is no such place")
        self.number = _kept(number)


class BadOver(SkipsError):
    """A fraction over 0."""


class BadSize(SkipsError):
    """A value that is no size."""

    def __init__(self, size):
        SkipsError.__init__(self, "a size is an integer within the bounds")
        self.size = _kept(size)


class BadOrder(SkipsError):
    """A value that is no order of the places."""

    def __init__(self, order):
        SkipsError.__init__(self, "an order is a list of all places, each once")
        self.order = _kept(order)


class NoJoint(SkipsError):
    """A value that is none of the joints that come up."""

    def __init__(self, joint):
        SkipsError.__init__(self, "there is no such joint")
        self.joint = _kept(joint)


class NoPartial(SkipsError):
    """A value that is none of the partial words that come up."""

    def __init__(self, partial):
        SkipsError.__init__(self, "there is no such partial word")
        self.partial = _kept(partial)


def _kept(value):
    """A copy of a field, so that a later change of what was passed does not change the error."""
    if isinstance(value, list):
        return [_kept(part) for part in value]
    if isinstance(value, tuple):
        return tuple([_kept(part) for part in value])
    if isinstance(value, dict):
        return {key: _kept(value[key]) for key in value}
    return value
