"""What names, kinds, forms, worths, expressions, turns, houses and ways are."""

from wherebeen.parts import inner_kinds, inner_parts, is_built


def is_integer(thing):
    """Whether any value is an integer; truths are none."""
    return isinstance(thing, int) and not isinstance(thing, bool)


def is_tuple(thing, least, most):
    """Whether any value is a tuple of at least and at most so many items."""
    return isinstance(thing, tuple) and least <= len(thing) <= most


def is_index(things, thing):
    """Whether any value is an index of a tuple of things."""
    return is_integer(thing) and 0 <= thing < len(things)


def is_name(thing):
    """Whether any value is a NAME."""
    return isinstance(thing, str) and 1 <= len(thing) <= 8 and all(["a" <= sign <= "z" for sign in thing])


def is_base(thing):
    """Whether any value is a BASE."""
    if is_tuple(thing, 2, 2):
        return thing[0] == "pick" and is_integer(thing[1]) and 1 <= thing[1] <= 4
    return is_tuple(thing, 1, 1) and thing[0] == "word"


def is_kind(thing):
    """Whether any value is a KIND."""
    if is_tuple(thing, 2, 2) and thing[0] in ("maybe", "row"):
        return is_base(thing[1])
    return is_base(thing)


def is_field(thing):
    """Whether any value is a FIELD."""
    return is_tuple(thing, 2, 2) and is_name(thing[0]) and is_kind(thing[1])


def is_form(thing):
    """Whether any value is a FORM."""
    if not is_tuple(thing, 1, 5) or not all([is_field(field) for field in thing]):
        return False
    return len({name for name, _ in thing}) == len(thing)


def is_base_value(base, thing):
    """Whether any value is a VALUE of a base."""
    if base[0] == "pick":
        return is_integer(thing) and 0 <= thing < base[1]
    return isinstance(thing, str) and len(thing) <= 12 and all([" " <= sign <= "~" for sign in thing])


def is_value(kind, thing):
    """Whether any value is a VALUE of a kind."""
    if kind[0] == "maybe":
        return thing is None or is_tuple(thing, 1, 1) and is_base_value(kind[1], thing[0])
    if kind[0] == "row":
        return isinstance(thing, tuple) and all([is_base_value(kind[1], item) for item in thing])
    return is_base_value(kind, thing)


def is_worth(form, thing):
    """Whether any value is a WORTH of a form."""
    if not is_tuple(thing, len(form), len(form)):
        return False
    return all([is_value(field[1], value) for field, value in zip(form, thing)])


def has_tilde(value):
    """Whether a word with a ~ is in a value of a kind."""
    if isinstance(value, tuple):
        return any([isinstance(item, str) and "~" in item for item in value])
    return isinstance(value, str) and "~" in value


def is_head(form, kind, thing):
    """Whether any value would be an expression for a kind, by a form, if the expressions in it were right."""
    if not is_built(kind, thing):
        return False
    label = thing[0]
    if label in ("copy", "is", "first") and not is_index(form, thing[1]):
        return False
    if label == "copy":
        return form[thing[1]][1] == kind
    if label == "is":
        return form[thing[1]][1][0] in ("maybe", "row")
    if label == "first":
        return form[thing[1]][1] == ("row", kind[1])
    if label == "say":
        return is_value(kind, thing[1]) and not has_tilde(thing[1])
    if label == "when":
        return is_tuple(thing[2], 1, 4)
    if label == "table":
        return is_tuple(thing[2], 1, 4) and all([is_value(kind, value) for value in thing[2]])
    return True


def is_expression(form, kind, thing):
    """Whether any value is an EXPRESSION for a kind, by a form."""
    waiting = [(kind, thing)]
    while waiting:
        wanted, part = waiting.pop()
        if not is_head(form, wanted, part):
            return False
        waiting.extend(list(zip(inner_kinds(wanted, part), inner_parts(part))))
    return True


def is_turn(form, other, thing):
    """Whether any value is a TURN from one form to another one."""
    if not is_tuple(thing, len(other), len(other)):
        return False
    return all([is_expression(form, field[1], part) for field, part in zip(other, thing)])


def is_road(forms, thing):
    """Whether any value is a ROAD between two of these forms."""
    if not is_tuple(thing, 4, 4) or not is_index(forms, thing[0]) or not is_index(forms, thing[1]):
        return False
    if thing[0] >= thing[1]:
        return False
    one, other = forms[thing[0]], forms[thing[1]]
    return is_turn(one, other, thing[2]) and is_turn(other, one, thing[3])


def near_spots(spot, pairs):
    """The list of the other one of each pair of spots in which a spot is."""
    return [other for one, other in pairs if one == spot] + [one for one, other in pairs if other == spot]


def reached(first, pairs):
    """The ascending list of the spots to which one can come from the first one over pairs of spots, itself too."""
    found = {first: True}
    waiting = [first]
    while waiting:
        near = near_spots(waiting.pop(), pairs)
        for spot in near:
            if spot not in found:
                found[spot] = True
                waiting.append(spot)
    return sorted(found)


def pairs_of(roads):
    """The list of the two forms of each road."""
    return [(road[0], road[1]) for road in roads]


def is_house(thing):
    """Whether any value is a HOUSE."""
    if not is_tuple(thing, 2, 2) or not is_tuple(thing[0], 1, 6) or not is_tuple(thing[1], 0, 9):
        return False
    forms, roads = thing
    if not all([is_form(form) for form in forms]) or not all([is_road(forms, road) for road in roads]):
        return False
    pairs = pairs_of(roads)
    if not all([one < other for one, other in zip(pairs, pairs[1:])]):
        return False
    return len(reached(0, pairs)) == len(forms)


def is_way(house, thing):
    """Whether any value is a WAY of a house."""
    forms, roads = house
    if not isinstance(thing, tuple) or not thing or not all([is_index(forms, spot) for spot in thing]):
        return False
    pairs = pairs_of(roads)
    return all([(min(step), max(step)) in pairs for step in zip(thing, thing[1:])])
