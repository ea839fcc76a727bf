"""What several tests use: kinds, forms and houses, made by chance from a seed, and things of all sorts."""

import random

WORD = ("word",)
NAMES = ("a", "b", "name", "tags", "side", "is", "field", "some")
WORDS = ("", "x", "a b", 'a "b"', "#", "say", "-", "0123456789ab", '""')
BASES = (WORD, ("pick", 1), ("pick", 2), ("pick", 3), ("pick", 4))
KINDS = BASES + tuple((sort, base) for sort in ("maybe", "row") for base in BASES)


def any_base_value(chance, base, said=False):
    if base == WORD:
        return chance.choice(WORDS if said else WORDS + ("~", "~0", "a~b"))
    return chance.randrange(base[1])


def any_value(chance, kind, said=False):
    if kind[0] == "maybe":
        return None if chance.random() < 0.3 else (any_base_value(chance, kind[1], said),)
    if kind[0] == "row":
        return tuple(any_base_value(chance, kind[1], said) for _ in range(chance.choice((0, 1, 1, 2, 3))))
    return any_base_value(chance, kind, said)


def any_form(chance, kinds=KINDS, most=5):
    many = chance.randint(1, most)
    return tuple((name, chance.choice(kinds)) for name in chance.sample(NAMES, many))


def any_worth(chance, form):
    return tuple(any_value(chance, kind) for _, kind in form)


def leaves(chance, form, kind):
    found = [("say", any_value(chance, kind, said=True))]
    for index, (_, its_kind) in enumerate(form):
        if its_kind == kind:
            found += [("copy", index)] * 3
        if kind == ("pick", 2) and its_kind[0] in ("maybe", "row"):
            found.append(("is", index))
        if kind[0] == "maybe" and its_kind == ("row", kind[1]):
            found += [("first", index)] * 2
    return found


def any_expression(chance, form, kind, deepest=4):
    if deepest == 1 or chance.random() < 0.3:
        return chance.choice(leaves(chance, form, kind))

    def inner(its_kind):
        return any_expression(chance, form, its_kind, deepest - 1)

    sorts = {"word": ["else"], "pick": ["else", "table"], "maybe": ["some"], "row": ["one", "rowof"]}[kind[0]]
    sort = chance.choice(sorts + ["when"])
    many = chance.randint(1, 4)
    if sort == "when":
        return ("when", inner(("pick", many)), tuple(inner(kind) for _ in range(many)))
    if sort == "else":
        return ("else", inner(("maybe", kind)), inner(kind))
    if sort == "table":
        return ("table", inner(("pick", many)), tuple(any_value(chance, kind) for _ in range(many)))
    if sort == "rowof":
        return ("rowof", inner(("maybe", kind[1])))
    return (sort, inner(kind[1]))


def any_turn(chance, form, other, deepest=4):
    return tuple(any_expression(chance, form, kind, deepest) for _, kind in other)


def any_house(chance, kinds=KINDS, most=5, spots=6, deepest=3):
    many = chance.randint(1, spots)
    forms = tuple(any_form(chance, kinds, most) for _ in range(many))
    pairs = {(chance.randrange(spot), spot) for spot in range(1, many)}
    while many > 2 and len(pairs) < 9 and chance.random() < 0.6:
        pairs.add(tuple(sorted(chance.sample(range(many), 2))))
    return (forms, tuple((one, other, any_turn(chance, forms[one], forms[other], deepest),
                          any_turn(chance, forms[other], forms[one], deepest)) for one, other in sorted(pairs)))


def any_way(chance, house, first, most):
    way = [first]
    for _ in range(chance.randrange(most)):
        near = [spot for road in house[1] for spot in road[:2] if way[-1] in road[:2] and spot != way[-1]]
        if near:
            way.append(chance.choice(near))
    return tuple(way)


def things():
    """Values of all sorts, none of which is a form, a house, a worth, an expression, a turn or a way."""
    return [None, True, False, -1, 7, 10 ** 39, "", "aB", "toolongname", "a\nb", (), [], {}, [()], (None,), ((),),
            {"a": 1}, {(): ()}, [("a", ("word",))], ("word", "word"), ((("a", ("word",)),), [], ()),
            ValueError("x"), ("copy",), ("say",), (1, 2, 3), {"copy": 0}, ([],), ({},), (True,), ("copy", True)]


def chance_of(seed):
    return random.Random(seed)
