"""Places of a house where a plain expression makes it good."""

from wherebeen.errors import TooMany
from wherebeen.faults import fault_ways, faults_of, is_good
from wherebeen.ways import gone_of
from wherebeen.worths import least_worth


def places_of(house):
    """The ascending list of all places of a house: the road, there or back, and the field."""
    found = []
    for index, road in enumerate(house[1]):
        for side in (0, 1):
            found.extend([(index, side, field) for field in range(len(road[2 + side]))])
    return found


def plain_turn_at(form, turn, fields):
    """The turn to a form with plain expressions for some of its fields."""
    plain = [("say", value) for value in least_worth(form)]
    return tuple([plain[at] if at in fields else part for at, part in enumerate(turn)])


def made_plain(house, places):
    """The house with plain expressions at some places."""
    forms, roads = house
    made = []
    for index, (one, other, there, back) in enumerate(roads):
        ahead = [field for road, side, field in places if road == index and side == 0]
        behind_it = [field for road, side, field in places if road == index and side == 1]
        made.append((one, other, plain_turn_at(forms[other], there, ahead), plain_turn_at(forms[one], back, behind_it)))
    return (forms, tuple(made))


def is_mend(house, places):
    """Whether plain expressions at some places make a good house."""
    return is_good(made_plain(house, places))


def may_mend(bad, places):
    """Whether some places have one on each of some lots of roads."""
    roads = [place[0] for place in places]
    return all([any([road in lot for road in roads]) for lot in bad])


def least_mends(house, places):
    """The ascending list of the mends of at most two of some places in which no other mend of these lies."""
    if len(places) > 12:
        raise TooMany(12)
    # a fault stays as long as nothing is changed on the roads of its ways
    bad = [gone_of(house, fault_ways(house, fault)[0]) for fault in faults_of(house)]
    if not bad:
        return [()]
    alone = [(place,) for place in places if may_mend(bad, (place,)) and is_mend(house, (place,))]
    left = [place for place in places if (place,) not in alone]
    pairs = [(one, other) for at, other in enumerate(left) for one in left[:at] if may_mend(bad, (one, other))]
    return sorted(alone + [pair for pair in pairs if is_mend(house, pair)])
