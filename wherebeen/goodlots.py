"""Lots of roads that make good houses, and what they fall into."""

from wherebeen.errors import TooMany
from wherebeen.faults import fault_ways, faults_by, first_fault_by
from wherebeen.forms import pairs_of, reached
from wherebeen.guide import Guide
from wherebeen.houses import counted_anew
from wherebeen.ways import gone_of


def pieces_of(house, lot):
    """The ascending list of the pieces of a lot: tuples of the forms that hang together by it, and of their roads."""
    forms, roads = house
    pairs = pairs_of([roads[road] for road in lot])
    pieces = []
    for spot in range(len(forms)):
        spots = tuple(reached(spot, pairs))
        if spots[0] == spot:
            pieces.append((spots, tuple([road for road in lot if roads[road][0] in spots])))
    return pieces


def house_of(house, piece):
    """The house of a piece: its forms in their order, counted anew, and its roads."""
    spots, lot = piece
    return counted_anew((house[0], tuple([house[1][road] for road in lot])), spots)


def is_good_lot(house, lot):
    """Whether the houses of all pieces of a lot are good."""
    # ways are only looked for along roads, so that the pieces can be asked about all at once
    return first_fault_by(Guide((house[0], tuple([house[1][road] for road in lot])))) is None


def is_within(lot, other):
    """Whether all roads of a lot are in another one."""
    return all([road in other for road in lot])


def all_lots(many):
    """The ascending list of all lots of so many roads."""
    return sorted([tuple([road for road in range(many) if mask >> road & 1]) for mask in range(1 << many)])


def least_bad_by(house):
    """The ascending list of the lots that are not good and in which no other such one lies; raises as they are told."""
    guide = Guide(house)
    if len(house[1]) > 7:
        raise TooMany(7)
    # the faults of the pieces of a lot are those of the house whose ways keep to its roads
    bad = {gone_of(house, fault_ways(house, fault)[0]): True for fault in faults_by(guide)}
    return sorted([lot for lot in bad if not any([is_within(other, lot) for other in bad if other != lot])])


def good_lots(house):
    """The ascending list of all good lots."""
    bad = least_bad_by(house)
    return [lot for lot in all_lots(len(house[1])) if not any([is_within(other, lot) for other in bad])]


def greatest_good(house):
    """The ascending list of the good lots that lie in no other good one."""
    good = good_lots(house)
    return [lot for lot in good if not any([is_within(lot, other) for other in good if other != lot])]


def least_bad(house):
    """The ascending list of the lots that are not good and in which no other such one lies."""
    return least_bad_by(house)


def fewest_cuts(house):
    """A lot of as few roads as can be such that all others are a good lot; of several the least."""
    good = good_lots(house)
    cuts = [tuple([road for road in range(len(house[1])) if road not in lot]) for lot in good]
    fewest = min([len(cut) for cut in cuts])
    return min([cut for cut in cuts if len(cut) == fewest])
