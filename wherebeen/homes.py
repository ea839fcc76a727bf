"""The homes of worths: where they can be without anything being lost on the way."""

from wherebeen.losses import Losses
from wherebeen.parted import good_guide
from wherebeen.ways import led


def passes(house, spot, worth, road):
    """Whether the return over a road at a form leaves a worth of the form as it is."""
    good_guide(house)
    one, other = house[1][road][:2]
    near = other if one == spot else one
    return led(house, (spot, near, spot), worth) == worth


def homes_of(house, spot, worth):
    """The ascending list of the homes of a worth of a form."""
    guide = good_guide(house)
    homes = Losses(guide).homes_for(spot, guide.number_for(spot, worth))
    return [(home, guide.worth_for(home, number)) for home, number in homes.items()]
