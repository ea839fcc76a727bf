"""Turns: worked out, measured, and put one behind the other."""

from wherebeen.errors import TooMany
from wherebeen.expressions import parts_many, put_in, worked


def turned(turn, worth):
    """The worth that a turn gives of a worth."""
    return tuple([worked(expression, worth) for expression in turn])


def turned_by_all(turns, worth):
    """What comes of a worth by some turns, done one behind the other."""
    outcome = worth
    for turn in turns:
        outcome = turned(turn, outcome)
    return outcome


def plain_turn(form):
    """The turn of a form into itself that copies each field."""
    return tuple([("copy", at) for at in range(len(form))])


def turn_parts(turn):
    """How many parts all expressions of a turn have together."""
    return sum([parts_many(expression) for expression in turn])


def behind(turn, later):
    """The turn that does first one turn and then a later one."""
    both = tuple([put_in(expression, turn) for expression in later])
    if turn_parts(both) > 200:
        raise TooMany(200)
    return both
