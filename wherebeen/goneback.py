"""What becomes of worths of a good house by all ways that go just the roads of a lot."""

from wherebeen.errors import NoLot
from wherebeen.goodlots import is_within
from wherebeen.houses import hangs_together
from wherebeen.outcomes import gone_lots
from wherebeen.parted import good_guide


def hangs_at(house, spot, lot):
    """Whether a lot is empty, or hangs together and has a road at a form."""
    return not lot or hangs_together(house, lot) and any([spot in house[1][road][:2] for road in lot])


def ask_lot(house, spot, lot):
    """Raises NoLot if a lot does not hang at a form."""
    if not hangs_at(house, spot, lot):
        raise NoLot(lot)


def way_round(house, spot, lot):
    """A way from a form back to it that goes just the roads of a lot that hangs there."""
    way = (spot,)
    left = list(lot)
    while left:
        road = [index for index in left if house[1][index][0] in way or house[1][index][1] in way][0]
        one, other = house[1][road][:2]
        here, near = (one, other) if one in way else (other, one)
        at = way.index(here)
        way = way[:at] + (here, near) + way[at:]
        left.remove(road)
    return way


def way_to(house, spot, lot, last):
    """A way that goes just the roads of a lot that hangs at its first form, to a form that is at one of them."""
    way = way_round(house, spot, lot)
    return way + way[1:way.index(last) + 1]


def led_one(guide, way, worth):
    """What a worth of the first form of a way becomes by it."""
    return guide.worth_for(way[-1], guide.led_all(way, [guide.number_for(way[0], worth)])[0])


def gone_back(house, spot, worth, lot):
    """What a worth of a form becomes by the ways back to it that go just the roads of a lot."""
    guide = good_guide(house)
    ask_lot(house, spot, lot)
    return led_one(guide, way_round(house, spot, lot), worth)


def gone_to(house, spot, worth, lot, last):
    """What a worth of a form becomes by the ways to another one, or back, that go just the roads of a lot."""
    guide = good_guide(house)
    ask_lot(house, spot, lot)
    if last not in way_round(house, spot, lot):
        raise NoLot(lot)
    return led_one(guide, way_to(house, spot, lot, last), worth)


def merging_lots(house, spot, one, other):
    """The ascending list of the lots behind which two worths of a form are one, and in which no other such one lies."""
    guide = good_guide(house)
    numbers = [guide.number_for(spot, one), guide.number_for(spot, other)]
    found = []
    for _, lot in sorted([(len(gone), gone) for gone in gone_lots(house, spot)]):
        if not any([is_within(less, lot) for less in found]):
            outcomes = guide.led_all(way_round(house, spot, lot), numbers)
            if outcomes[0] == outcomes[1]:
                found.append(lot)
    return sorted(found)
