"""What a worth has been, told by copies of it that have gone their ways and come back."""

from wherebeen.errors import NotFinite, TooMany
from wherebeen.goneback import ask_lot, way_round
from wherebeen.goodlots import all_lots, is_within
from wherebeen.parted import good_guide
from wherebeen.worths import is_finite_form


def rows_by(house, spot, lots):
    """A guide of the house, and for each of some lots the list of what becomes of all worths of a form by it.

    It raises what good_guide raises, then NotFinite, then NoLot.
    """
    guide = good_guide(house)
    if not is_finite_form(house[0][spot]):
        raise NotFinite(spot)
    for lot in lots:
        ask_lot(house, spot, lot)
    # the tests of a FINITE form are all its worths, in order
    return (guide, [guide.led_all(way_round(house, spot, lot), guide.tests[spot]) for lot in lots])


def could_have_been(house, spot, copies):
    """The list of the worths of a form, in order, of which all that are told can be copies."""
    guide, rows = rows_by(house, spot, [lot for lot, _ in copies])
    left = guide.tests[spot]
    for (_, worth), outcomes in zip(copies, rows):
        told = guide.number_for(spot, worth)
        left = [number for number in left if outcomes[number] == told]
    return [guide.worth_for(spot, number) for number in left]


def alike_groups(numbers, rows):
    """The list of the lists of those of some numbers for which all rows have the same items, by their first ones."""
    groups = {}
    for number in numbers:
        groups.setdefault(tuple([outcomes[number] for outcomes in rows]), []).append(number)
    return list(groups.values())


def told_apart(house, spot, lots):
    """None if any two worths of a form have unlike copies by one of some lots, otherwise the first two without."""
    guide, rows = rows_by(house, spot, lots)
    for group in alike_groups(guide.tests[spot], rows):
        if len(group) > 1:
            return (guide.worth_for(spot, group[0]), guide.worth_for(spot, group[1]))
    return None


def least_tellers(house, spot, lots):
    """The ascending list of the tuples of indexes of lots that tell all worths apart, and no less of them do."""
    if len(lots) > 8:
        raise TooMany(8)
    guide, rows = rows_by(house, spot, lots)
    numbers = guide.tests[spot]
    found = []
    for _, chosen in sorted([(len(some), some) for some in all_lots(len(lots))]):
        if not any([is_within(less, chosen) for less in found]):
            if len(alike_groups(numbers, [rows[at] for at in chosen])) == len(numbers):
                found.append(chosen)
    return sorted(found)
