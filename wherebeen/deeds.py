"""Deeds: turns of a form of a good house into itself, done there or anywhere else."""

from wherebeen.forms import is_index, is_tuple, is_turn
from wherebeen.guide import doing_of
from wherebeen.parted import good_guide
from wherebeen.returns import unlike_way
from wherebeen.turns import behind, plain_turn
from wherebeen.ways import way_turns


def is_deed(house, thing):
    """Whether any value is a deed of a house."""
    if not is_tuple(thing, 2, 2) or not is_index(house[0], thing[0]):
        return False
    form = house[0][thing[0]]
    return is_turn(form, form, thing[1])


def unlike_deed_by(guide, deed):
    """As unlike_deed, of the house of a guide."""
    spot, turn = deed
    return unlike_way(guide, spot, doing_of(guide, spot, (turn,)))


def unlike_deed(house, deed):
    """None if a deed keeps order, otherwise the least simple way whose return does not change places, and a test."""
    return unlike_deed_by(good_guide(house), deed)


def keeps_order(house, deed):
    """Whether a deed changes places with each return by a simple way of its form."""
    return unlike_deed(house, deed) is None


def deed_along(house, deed, way):
    """As deed_by, of any house."""
    form = house[0][way[0]]
    done = plain_turn(form)
    for turn in way_turns(house, way) + [deed[1]] + way_turns(house, way[::-1]):
        done = behind(done, turn)
    return (way[0], done)


def deed_by(house, deed, way):
    """The deed of the first form of a way that does what the way, a deed at its end, and the way back do."""
    good_guide(house)
    return deed_along(house, deed, way)
