"""Houses that are good by the way in which they are made, and what told things come to by asking everything."""

import itertools

from samples import WORD, any_expression, any_house
from wherebeen.forms import is_way
from wherebeen.houses import step_turn
from wherebeen.probes import tests_of
from wherebeen.turns import turned

TWO = ("pick", 2)
PICK = (("p", TWO),)
COPY, ZERO, ONE, FLIP = (("copy", 0),), (("say", 0),), (("say", 1),), (("table", ("copy", 0), (1, 0)),)
# three forms of four worths each of which just as many come up as there are bits; a road loses one bit
BITS = (("a", TWO), ("b", TWO), ("c", ("word",)))
LEFT, RIGHT = (("say", 0), ("copy", 1), ("copy", 2)), (("copy", 0), ("say", 0), ("copy", 2))
FORK = ((BITS,) * 3, ((0, 1, LEFT, LEFT), (0, 2, RIGHT, RIGHT)))
FINITE_KINDS = (TWO, ("pick", 3), ("pick", 4), ("maybe", TWO), ("maybe", ("pick", 1)), ("pick", 1))
ALL_KINDS = FINITE_KINDS + (WORD, ("maybe", WORD), ("row", WORD), ("row", TWO))
SIX_NINE = [(a, b) for a in (0, 1, 2) for b in (3, 4, 5)]


def all_copied(form):
    return tuple(("copy", at) for at in range(len(form)))


def alike_house(form, pairs, turns, many=6):
    """A house of equal forms; each road has one turn there and back."""
    return ((form,) * many, tuple((one, other, turn, turn) for (one, other), turn in zip(pairs, turns)))


def any_pairs(chance, many, most=9, tree=False):
    pairs = {(chance.randrange(spot), spot) for spot in range(1, many)}
    while not tree and many > 2 and len(pairs) < most and chance.random() < 0.7:
        pairs.add(tuple(sorted(chance.sample(range(many), 2))))
    return sorted(pairs)


class Field:
    """A field of the whole of which each form has a part: its kind, what is left of it if it is lost, and half lost."""

    def __init__(self, chance, name, kind):
        self.name, self.kind = name, kind
        if kind[0] == "pick":
            self.none = chance.randrange(kind[1])
            kept = sorted({self.none} | {chance.randrange(kind[1]) for _ in range(2)})
            self.fold = tuple(value if value in kept else chance.choice(kept) for value in range(kind[1]))
        else:
            self.none = {"word": "gone", "maybe": None, "row": ()}[kind[0]]

    def half(self, at):
        if self.kind[0] == "maybe":
            given = "x" if self.kind[1] == WORD else 0
            return ("when", ("is", at), (("say", None), ("some", ("say", given))))
        return ("rowof", ("first", at)) if self.kind[0] == "row" else ("copy", at)

    def passed(self, level, at, decoded, coded):
        """The expression for this field, lost so far, out of the field with an index; picks are told otherwise in each form."""
        if level == 2:
            return ("say", coded[self.none] if coded else self.none)
        if coded:
            fold = self.fold if level else tuple(range(len(coded)))
            return ("table", ("copy", at), tuple(coded[fold[decoded.index(value)]] for value in range(len(coded))))
        return self.half(at) if level else ("copy", at)


def good_house(chance, kinds=ALL_KINDS, spots=6, roads=9, tree=False, fields=4):
    """A good house: each road loses some fields, or halves of them, whatever else was lost."""
    many = chance.randint(1, spots)
    whole = [Field(chance, name, chance.choice(kinds)) for name in "abcd"[:fields]]
    orders = [chance.sample(range(len(whole)), chance.randint(max(1, len(whole) - 1), len(whole))) for _ in range(many)]
    codes = [{at: chance.sample(range(whole[at].kind[1]), whole[at].kind[1]) if whole[at].kind[0] == "pick" else None
              for at in order} for order in orders]
    levels = {}

    def turn(one, other, lost):
        return tuple(whole[at].passed(lost[at], orders[one].index(at) if at in orders[one] else None,
                                      codes[one].get(at), codes[other][at]) for at in orders[other])

    made = []
    for pair in any_pairs(chance, many, roads, tree):
        one, other = pair
        lost = [chance.choice((0, 0, 0, 1, 2)) if at in orders[one] and at in orders[other] else 2 for at in range(len(whole))]
        levels[pair] = lost
        made.append((one, other, turn(one, other, lost), turn(other, one, lost)))
    forms = tuple(tuple((whole[at].name, whole[at].kind) for at in order) for order in orders)
    return (forms, tuple(made))


def spoiled_house(chance, house):
    """The house with another expression in one place."""
    forms, roads = house
    if not roads:
        return house
    index = chance.randrange(len(roads))
    road = list(roads[index])
    side = chance.randrange(2)
    form, other = forms[road[side]], forms[road[1 - side]]
    at = chance.randrange(len(other))
    fresh = any_expression(chance, form, other[at][1], 2)
    road[2 + side] = road[2 + side][:at] + (fresh,) + road[2 + side][at + 1:]
    return (forms, roads[:index] + (tuple(road),) + roads[index + 1:])


def any_small_house(chance):
    """A house of which about half are good."""
    if chance.random() < 0.4:
        return any_house(chance, (TWO, ("maybe", TWO), WORD, ("pick", 1)), 2, 4, 2)
    house = good_house(chance, spots=4, fields=2)
    return house if chance.random() < 0.5 else spoiled_house(chance, house)


def told_led(house, way, worth):
    for one, other in zip(way, way[1:]):
        worth = turned(step_turn(house, one, other), worth)
    return worth


def told_there_and_back(way):
    return way + way[::-1][1:]


def told_states(house, spot, worth):
    """All (gone, last, worth) that a worth becomes, gone being a frozenset."""
    found = {(frozenset(), spot, worth)}
    fresh = set(found)
    while fresh:
        later = set()
        for gone, last, here in fresh:
            for index, (one, other, there, back) in enumerate(house[1]):
                if last in (one, other):
                    near, turn = (other, there) if last == one else (one, back)
                    later.add((gone | {index}, near, turned(turn, here)))
        fresh = later - found
        found |= fresh
    return found


def told_good(house):
    """Whether what all tests become hangs only on the roads gone and the last form."""
    for spot, form in enumerate(house[0]):
        for test in tests_of(form):
            states = told_states(house, spot, test)
            if len({(gone, last) for gone, last, _ in states}) < len(states):
                return False
    return True


def told_simple_ways(house, spot=None):
    spots = range(len(house[0]))
    rows = [row for many in range(2, len(spots) + 1) for row in itertools.permutations(spots, many)]
    return sorted(row for row in rows if spot in (None, row[0]) and is_way(house, row))


def told_rings(house):
    rings = [way + way[:1] for way in told_simple_ways(house) if len(way) > 2]
    return sorted(ring for ring in rings if is_way(house, ring))


def told_lots(many):
    return [lot for size in range(many + 1) for lot in itertools.combinations(range(many), size)]


SQUARE = (("a", TWO), ("b", TWO))
CORNERS = ((0, 0), (0, 1), (1, 0), (1, 1))
SETTLED_MAPS = [row for row in itertools.product(range(4), repeat=4) if all(row[item] == item for item in row)]
ALL_MAPS = list(itertools.product(range(4), repeat=4))


def turn_for(row):
    """The turn of a SQUARE into itself that leads each corner to the one whose index row has there."""
    return tuple(("when", ("copy", 0), tuple(
        ("table", ("copy", 1), tuple(CORNERS[row[2 * a + b]][at] for b in (0, 1))) for a in (0, 1))) for at in (0, 1))


def any_square_house(chance, spots=4, tree=False):
    """A house of SQUAREs whose roads have no faults alone; each there and back is settled, or turned by one permutation."""
    many = chance.randint(1, spots)
    roads = []
    for one, other in any_pairs(chance, many, 9, tree):
        row = chance.choice(SETTLED_MAPS)
        order = chance.sample(range(4), 4) if chance.random() < 0.3 else list(range(4))
        # there: lose, then count anew; back: count back, then lose
        there = [order[row[at]] for at in range(4)]
        back = [row[order.index(at)] for at in range(4)]
        roads.append((one, other, turn_for(there), turn_for(back)))
    return ((SQUARE,) * many, tuple(roads))


def any_good_square_house(chance, spots=4, tree=False):
    while True:
        house = any_square_house(chance, spots, tree)
        if told_good(house):
            return house


THREE = (("p", ("pick", 3)),)


def three_turn(row):
    """The turn of a THREE into itself that leads each worth to the one that row has there."""
    return (("table", ("copy", 0), tuple(row)),)


def any_good_three_house(chance, spots=3):
    """A good house of THREEs, mostly with rings."""
    settled = [row for row in itertools.product(range(3), repeat=3) if all(row[item] == item for item in row)]
    while True:
        many = chance.randint(1, spots)
        pairs = [pair for pair in itertools.combinations(range(many), 2) if pair[1] == pair[0] + 1 or chance.random() < 0.7]
        roads = []
        for one, other in pairs:
            row, order = chance.choice(settled), chance.choice(((0, 1, 2), (0, 1, 2), (1, 2, 0), (1, 0, 2)))
            there, back = [order[item] for item in row], [row[order.index(at)] for at in range(3)]
            roads.append((one, other, three_turn(there), three_turn(back)))
        house = ((THREE,) * many, tuple(roads))
        if told_good(house):
            return house
