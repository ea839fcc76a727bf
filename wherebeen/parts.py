"""How expressions hold one another.

A HEAD is an expression of which only its sort, its length and what it holds besides other expressions are looked at:
in the places of these anything may stand, so that a reader can make the heads before what is in them.
Depth is not bounded in what is returned, so nothing here calls itself.
"""

LENGTHS = {
    "copy": 2, "say": 2, "when": 3, "else": 3, "table": 3, "is": 2, "some": 2, "first": 2, "one": 2, "rowof": 2,
}

KINDS = {
    "copy": ("word", "pick", "maybe", "row"),
    "say": ("word", "pick", "maybe", "row"),
    "when": ("word", "pick", "maybe", "row"),
    "else": ("word", "pick"),
    "table": ("pick",),
    "is": ("pick",),
    "some": ("maybe",),
    "first": ("maybe",),
    "one": ("row",),
    "rowof": ("row",),
}


def fits_kind(kind, label):
    """Whether expressions of a sort, any text, can be for a kind."""
    if label == "is":
        return kind == ("pick", 2)
    return kind[0] in KINDS.get(label, ())


def is_built(kind, thing):
    """Whether any value has a sort that can be for a kind, and the length of this sort."""
    if not isinstance(thing, tuple) or not thing or not isinstance(thing[0], str):
        return False
    return fits_kind(kind, thing[0]) and len(thing) == LENGTHS[thing[0]]


def inner_parts(head):
    """The list of the expressions directly in one, in the order in which they are written."""
    if head[0] == "when":
        return [head[1], *head[2]]
    if head[0] == "else":
        return [head[1], head[2]]
    if head[0] in ("table", "some", "one", "rowof"):
        return [head[1]]
    return []


def inner_kinds(kind, head):
    """The list of the kinds for which the expressions directly in one are, itself being for a kind."""
    label = head[0]
    if label == "when":
        return [("pick", len(head[2]))] + [kind] * len(head[2])
    if label == "else":
        return [("maybe", kind), kind]
    if label == "table":
        return [("pick", len(head[2]))]
    if label in ("some", "one"):
        return [kind[1]]
    if label == "rowof":
        return [("maybe", kind[1])]
    return []


def with_inner(head, inner):
    """The expression that has those of a list in it, and all else as the head has it."""
    label = head[0]
    if label == "when":
        return (label, inner[0], tuple(inner[1:]))
    if label == "else":
        return (label, inner[0], inner[1])
    if label == "table":
        return (label, inner[0], head[2])
    if label in ("some", "one", "rowof"):
        return (label, inner[0])
    return head


def parts_of(expression, inside):
    """The list of an expression and all in it, each ahead of those in it; inside tells which are in one."""
    parts = []
    waiting = [expression]
    while waiting:
        part = waiting.pop()
        parts.append(part)
        waiting.extend(inside(part)[::-1])
    return parts


def gathered(parts, inside, step):
    """What step makes of the first of some parts that stand as parts_of tells them.

    It is passed a part, and the list of what it has made of those in it.
    """
    made = []
    for part in reversed(parts):
        # what is in a part was made last, the first of it at the very end
        behind_it = len(made) - len(inside(part))
        held = made[behind_it:]
        del made[behind_it:]
        made.append(step(part, held[::-1]))
    return made[0]


def folded(expression, inside, step):
    """What step makes of an expression, as gathered has it."""
    return gathered(parts_of(expression, inside), inside, step)
