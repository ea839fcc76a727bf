"""Rings: whether going round is the same as going round and back round."""

from wherebeen.errors import NotFinite
from wherebeen.guide import Guide
from wherebeen.ways import return_of, rings_of
from wherebeen.worths import is_finite_form


def is_least(ring):
    """Whether a ring begins with its least form and goes on with the lesser one of its two neighbours."""
    return ring[0] == min(ring) and ring[1] < ring[-2]


def least_rings(house):
    """The ascending list of the least rings: each ring once."""
    return [ring for ring in rings_of(house) if is_least(ring)]


def is_still_by(guide, ring):
    """Whether for all worths a ring does the same as the return by it."""
    return guide.parting(ring, return_of(ring)) is None


def is_still(house, ring):
    """Whether for all worths a ring does the same as the return by it."""
    return is_still_by(Guide(house), ring)


def ways_round(ring):
    """The list of all rings that are this one, begun at each of its forms, and gone either way about."""
    spots = ring[:-1]
    begun = [spots[at:] + spots[:at + 1] for at in range(len(spots))]
    return begun + [way[::-1] for way in begun]


def still_rings(house):
    """The ascending list of the least rings that are still wherever they are begun, and either way about."""
    guide = Guide(house)
    return [ring for ring in least_rings(house) if all([is_still_by(guide, way) for way in ways_round(ring)])]


def round_of(house, ring):
    """The dict from the worths that the return by a ring leaves as they are to what they become once round."""
    guide = Guide(house)
    spot = ring[0]
    if not is_finite_form(house[0][spot]):
        raise NotFinite(spot)
    # the tests of a FINITE form are all its worths
    worths = guide.tests[spot]
    rows = list(zip(worths, guide.led_all(return_of(ring), worths), guide.led_all(ring, worths)))
    kept = [(worth, once) for worth, back, once in rows if worth == back]
    return {guide.worth_for(spot, worth): guide.worth_for(spot, once) for worth, once in kept}
