"""Which roads a worth of a good house can have gone, and what it can have been."""

from wherebeen.errors import NoPast
from wherebeen.goneback import ask_lot, led_one, way_round, way_to
from wherebeen.outcomes import gone_lots
from wherebeen.parted import good_guide


def is_past(guide, spot, worth, lot):
    """Whether a lot that hangs at a form is a past of a worth of it."""
    return led_one(guide, way_round(guide.house, spot, lot), worth) == worth


def pasts_of(house, spot, worth):
    """The ascending list of all pasts of a worth of a form."""
    guide = good_guide(house)
    return [lot for lot in gone_lots(house, spot) if is_past(guide, spot, worth, lot)]


def greatest_past(house, spot, worth):
    """The past of a worth of a form in which all others lie."""
    return tuple(sorted({road for lot in pasts_of(house, spot, worth) for road in lot}))


def surely_not_gone(house, spot, worth):
    """The ascending tuple of the roads that are in no past of a worth of a form."""
    past = greatest_past(house, spot, worth)
    return tuple([road for road in range(len(house[1])) if road not in past])


def first_worth(house, spot, worth, lot, first):
    """A worth of a form that becomes a worth of another one by each way between them that goes just a past."""
    guide = good_guide(house)
    ask_lot(house, spot, lot)
    if not is_past(guide, spot, worth, lot) or first not in way_round(house, spot, lot):
        raise NoPast(lot)
    # led back by the same roads it does what the way there and back does: nothing
    return led_one(guide, way_to(house, spot, lot, first), worth)
