"""The errors of the package, each with its arguments as fields."""


class WayError(ValueError):
    """What all errors have in common; it is raised nowhere itself."""


class FallsApart(WayError):
    """One cannot come to a form any more."""

    def __init__(self, spot):
        self.spot = spot


class HasRing(WayError):
    """The house has rings; the way is the least of them."""

    def __init__(self, way):
        self.way = way


class Joined(WayError):
    """A road joins the two forms already."""

    def __init__(self, index):
        self.index = index


class NoCommand(WayError):
    """The line is no command."""


class NoCopy(WayError):
    """There is no document with this name."""

    def __init__(self, name):
        self.name = name


class NoField(WayError):
    """There is no field with this name."""

    def __init__(self, name):
        self.name = name


class NoLot(WayError):
    """The lot does not hang at the form."""

    def __init__(self, lot):
        self.lot = lot


class NoPast(WayError):
    """The lot is no past of the worth."""

    def __init__(self, lot):
        self.lot = lot


class NoPlace(WayError):
    """There is no worth at this place."""

    def __init__(self, place):
        self.place = place


class NoRoad(WayError):
    """No road joins the two forms."""

    def __init__(self, one, other):
        self.one = one
        self.other = other


class NoText(WayError):
    """The line with this index is bad, or something lacks behind the last one."""

    def __init__(self, line):
        self.line = line


class NoValue(WayError):
    """The value is none of the field's kind."""

    def __init__(self, value):
        self.value = value


class NotAnywhere(WayError):
    """The deed cannot be done anywhere."""

    def __init__(self, way, worth):
        self.way = way
        self.worth = worth


class NotFinite(WayError):
    """The form has worths without end."""

    def __init__(self, spot):
        self.spot = spot


class NotKept(WayError):
    """The promise would not hold."""

    def __init__(self, index, fault):
        self.index = index
        self.fault = fault


class Nothing(WayError):
    """There is nothing to take back."""


class Parted(WayError):
    """The house is not good: by the two ways the worth becomes unlike worths."""

    def __init__(self, worth, way, other):
        self.worth = worth
        self.way = way
        self.other = other


class Taken(WayError):
    """The name is taken."""

    def __init__(self, name):
        self.name = name


class TooMany(WayError):
    """There are more than there may be."""

    def __init__(self, most):
        self.most = most


class Unlike(WayError):
    """The two forms are not equal."""


class Wrong(WayError):
    """The argument at this place is not as described."""

    def __init__(self, place):
        self.place = place


def ask(place, right):
    """Raises Wrong if it is not right what is asked of the argument at a place."""
    if not right:
        raise Wrong(place)
