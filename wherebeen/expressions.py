"""Works expressions out, measures them, and puts turns into them."""

from wherebeen.parts import folded, inner_parts, parts_of, with_inner


def leaf_value(part, worth):
    """What an expression without expressions in it gives, worked out of a worth."""
    if part[0] == "copy":
        return worth[part[1]]
    if part[0] == "say":
        return part[1]
    value = worth[part[1]]
    if part[0] == "is":
        return 1 if value else 0
    return value[:1] if value else None


def carried_on(part, value):
    """What comes of an expression whose first one in it gives a value.

    This is a tuple: what the expression gives, and None; or None, and the expression that gives it.
    """
    label = part[0]
    if label == "when":
        return (None, part[2][value])
    if label == "else":
        return (None, part[2]) if value is None else (value[0], None)
    if label == "table":
        return (part[2][value], None)
    if label == "rowof":
        return (() if value is None else value, None)
    return ((value,), None)


def worked(expression, worth):
    """What an expression gives, worked out of a worth of its form."""
    # a list of what waits stands in for calls of itself, as depth is not bounded
    waiting = []
    value = None
    part = expression
    while part is not None:
        while part[0] in ("when", "else", "table", "some", "one", "rowof"):
            waiting.append(part)
            part = part[1]
        value = leaf_value(part, worth)
        part = None
        while waiting and part is None:
            value, part = carried_on(waiting.pop(), value)
    return value


def parts_many(expression):
    """How many parts an expression has."""
    return len(parts_of(expression, inner_parts))


def deep(expression):
    """How deep an expression is."""
    return folded(expression, inner_parts, lambda part, held: 1 + max(held, default=0))


def reads(expression):
    """The ascending tuple of the indexes of the fields that stand in an expression."""
    parts = parts_of(expression, inner_parts)
    return tuple(sorted({part[1] for part in parts if part[0] in ("copy", "is", "first")}))


def items_of(part):
    """The list of the items of a "when"; none of other expressions."""
    return list(part[2]) if part[0] == "when" else []


def alike_parts(part):
    """The list of the expressions in one in which there is something if there is something in it."""
    return [part[1]] if part[0] == "rowof" else items_of(part)


def is_of_part(part, held):
    """The IS of an expression, held being what it is of those in it that alike_parts tells."""
    label = part[0]
    if label in ("copy", "first"):
        return ("is", part[1])
    if label == "say":
        return ("say", 1 if part[1] else 0)
    if label == "rowof":
        return held[0]
    if label == "when":
        return ("when", part[1], tuple(held))
    return ("say", 1)


def first_of_part(part, held):
    """The FIRST of an expression for a row, held being what it is of its items."""
    label = part[0]
    if label == "copy":
        return ("first", part[1])
    if label == "say":
        return ("say", part[1][:1] if part[1] else None)
    if label == "one":
        return ("some", part[1])
    if label == "rowof":
        return part[1]
    return ("when", part[1], tuple(held))


def put_in_part(part, held, turn):
    """What becomes of an expression by a turn, held being what becomes of those in it."""
    label = part[0]
    if label == "copy":
        return turn[part[1]]
    if label == "is":
        return folded(turn[part[1]], alike_parts, is_of_part)
    if label == "first":
        return folded(turn[part[1]], items_of, first_of_part)
    return with_inner(part, held)


def put_in(expression, turn):
    """The expression that gives of each worth what this one gives of the turn's outcome."""
    return folded(expression, inner_parts, lambda part, held: put_in_part(part, held, turn))
