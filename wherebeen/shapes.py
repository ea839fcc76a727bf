"""What turns of a form into itself do to all worths."""

from wherebeen.probes import same_turns, tests_of, unlike_test
from wherebeen.turns import plain_turn, turned


def is_plain(form, turn):
    """Whether a turn leaves all worths as they are."""
    return same_turns(form, turn, plain_turn(form))


def is_settled(form, turn):
    """Whether a turn done twice does the same as done once."""
    return unlike_test(form, (turn, turn), (turn,)) is None


def change_places(form, one, other):
    """Whether it makes no difference which of two turns is done first."""
    return unlike_test(form, (one, other), (other, one)) is None


def comes_back(form, there, back):
    """Whether a turn to another form and one from there leave all worths as they are."""
    return unlike_test(form, (there, back), ()) is None


def kept_fields(form, turn):
    """The ascending tuple of the indexes of the fields that come out as they were, of all worths."""
    pairs = [(test, turned(turn, test)) for test in tests_of(form)]
    return tuple([at for at in range(len(form)) if all([test[at] == outcome[at] for test, outcome in pairs])])
