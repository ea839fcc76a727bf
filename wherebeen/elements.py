"""What worths and losses make together: a worth where it is at home first, and roads that wait."""

from wherebeen.forms import is_index, is_tuple, is_worth
from wherebeen.losses import Losses
from wherebeen.parted import good_guide


def element_of(house, spot, worth):
    """The element of a worth of a form, of which no road waits."""
    guide = good_guide(house)
    home, number, _ = Losses(guide).element_for(spot, guide.number_for(spot, worth), ())
    return (home, guide.worth_for(home, number), ())


def lost(house, element, road):
    """What an element becomes by the loss of a road."""
    guide = good_guide(house)
    spot, worth, waiting = element
    home, number, left = Losses(guide).lose((spot, guide.number_for(spot, worth), waiting), road)
    return (home, guide.worth_for(home, number), left)


def home_worth(house, element, spot):
    """The worth that an element is in a form, None if a road waits or no home of it is there."""
    guide = good_guide(house)
    home, worth, waiting = element
    homes = Losses(guide).homes_for(home, guide.number_for(home, worth))
    if waiting or spot not in homes:
        return None
    return guide.worth_for(spot, homes[spot])


def are_roads(house, thing):
    """Whether any value is an ascending tuple of indexes of roads of a house."""
    if not isinstance(thing, tuple) or not all([is_index(house[1], road) for road in thing]):
        return False
    return all([one < other for one, other in zip(thing, thing[1:])])


def is_element(house, thing):
    """Whether any value is an element of the house."""
    guide = good_guide(house)
    if not is_tuple(thing, 3, 3) or not is_index(house[0], thing[0]) or not are_roads(house, thing[2]):
        return False
    spot, worth, waiting = thing
    if not is_worth(house[0][spot], worth):
        return False
    losses = Losses(guide)
    homes = losses.homes_for(spot, guide.number_for(spot, worth))
    return min(list(homes)) == spot and not any([losses.is_near(homes, road) for road in waiting])
