"""Ways with the same roads gone, by which a worth becomes unlike worths."""

from wherebeen.errors import Parted
from wherebeen.faults import fault_ways, first_fault, first_fault_by
from wherebeen.forms import is_tuple, is_way, is_worth
from wherebeen.guide import Guide, ask_few
from wherebeen.ways import gone_of, led


def is_parted(house, thing):
    """Whether any value is a tuple of a worth and two ways as told above."""
    ask_few(house)
    if not is_tuple(thing, 3, 3) or not is_way(house, thing[1]) or not is_way(house, thing[2]):
        return False
    worth, way, other = thing
    if way[0] != other[0] or way[-1] != other[-1] or gone_of(house, way) != gone_of(house, other):
        return False
    return is_worth(house[0][way[0]], worth) and led(house, way, worth) != led(house, other, worth)


def parted_by_fault(house, fault):
    """The parted ways that a fault of a house gives."""
    way, other = fault_ways(house, fault)
    return (fault[-1], way, other)


def parted_by(house, fault):
    """The parted ways that a fault of a house gives."""
    ask_few(house)
    return parted_by_fault(house, fault)


def parted_ways(house):
    """The parted ways that the first fault of a house gives, None if the house is good."""
    fault = first_fault(house)
    return None if fault is None else parted_by_fault(house, fault)


def good_guide(house):
    """A guide of a good house; raises TooMany(500) if a form has more tests, then Parted if the house is not good."""
    guide = Guide(house)
    fault = first_fault_by(guide)
    if fault is not None:
        worth, way, other = parted_by_fault(house, fault)
        raise Parted(worth, way, other)
    return guide
