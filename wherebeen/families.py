"""Families: one turn for each form of a house, such that it makes no difference where on a way it is done."""

from wherebeen.choices import first_choice
from wherebeen.deeds import deed_along, unlike_deed_by
from wherebeen.errors import HasRing, NotAnywhere, TooMany
from wherebeen.forms import is_tuple, is_turn
from wherebeen.guide import ask_few, doing_of
from wherebeen.hubs import ways_between
from wherebeen.numbers import finite_guide
from wherebeen.parted import good_guide
from wherebeen.probes import unlike_test
from wherebeen.shapes import change_places
from wherebeen.ways import rings_of


def is_family(house, thing):
    """Whether any value is a family of a house."""
    ask_few(house)
    forms = house[0]
    if not is_tuple(thing, len(forms), len(forms)):
        return False
    if not all([is_turn(form, form, turn) for form, turn in zip(forms, thing)]):
        return False
    return unlike_road(house, thing) is None


def unlike_road(house, turns):
    """None if turns, one for each form, are a family, otherwise the least road and side that tells, and a test."""
    ask_few(house)
    for index, road in enumerate(house[1]):
        for side in (0, 1):
            here, near, over = road[side], road[1 - side], road[2 + side]
            test = unlike_test(house[0][here], (turns[here], over), (over, turns[near]))
            if test is not None:
                return (index, side, test)
    return None


def family_by(house, deed):
    """The family of a good house without rings that has the turn of a deed at its form."""
    guide = good_guide(house)
    rings = rings_of(house)
    if rings:
        raise HasRing(rings[0])
    found = unlike_deed_by(guide, deed)
    if found is not None:
        way, worth = found
        raise NotAnywhere(way, worth)
    ways = ways_between(house)
    deeds = [deed_along(house, deed, ways[(spot, deed[0])]) for spot in range(len(house[0])) if spot != deed[0]]
    turns = [turn for _, turn in deeds]
    return tuple(turns[:deed[0]] + [deed[1]] + turns[deed[0]:])


def links_of(guide):
    """The list of the links between what maps make of all worths, the unknowns being tuples (spot, number)."""
    links = []
    for spot, numbers in enumerate(guide.tests):
        for near in guide.near[spot]:
            over = guide.steps(spot, near, numbers)
            links.extend([((spot, number), (near, over[number]), over) for number in numbers])
    return links


def maps_of(house, deed):
    """A map for each form such that it makes no difference where on a way it is done, by a deed; None if none is."""
    guide = finite_guide(house)
    # the tests of a FINITE form are all its worths, and their numbers their places
    if max([len(numbers) for numbers in guide.tests]) > 4:
        raise TooMany(4)
    here, turn = deed
    left = {(spot, number): numbers for spot, numbers in enumerate(guide.tests) for number in numbers}
    for number, outcome in enumerate(doing_of(guide, here, (turn,)).done_all(guide.tests[here])):
        left[(here, number)] = [outcome]
    chosen = first_choice(left, links_of(guide))
    if chosen is None:
        return None
    maps = [{} for _ in guide.tests]
    for (spot, number), outcome in chosen.items():
        maps[spot][guide.worth_for(spot, number)] = guide.worth_for(spot, outcome)
    return tuple(maps)


def are_free(house, turns, other):
    """Whether for all forms it makes no difference which of the turns of two families is done first."""
    ask_few(house)
    return all([change_places(form, turns[spot], other[spot]) for spot, form in enumerate(house[0])])
