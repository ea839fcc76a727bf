"""Finds a choice for each of some unknowns, such that all links between them hold.

A link is a tuple (one, other, over) of two unknowns and a list: the item of the list whose index is chosen for the
former is chosen for the latter.
"""


def narrowed(left, links):
    """The dict of the choices left for each unknown but for those that some link bars; None if one has none left."""
    found = {unknown: left[unknown] for unknown in left}
    is_changed = True
    while is_changed:
        is_changed = False
        for one, other, over in links:
            ones = [choice for choice in found[one] if over[choice] in found[other]]
            outcomes = [over[choice] for choice in ones]
            others = [choice for choice in found[other] if choice in outcomes]
            if not ones:
                return None
            if len(ones) < len(found[one]) or len(others) < len(found[other]):
                found[one] = ones
                found[other] = others
                is_changed = True
    return found


def with_choice(left, unknown, choice):
    """The dict of the choices left, with only one for an unknown."""
    return {other: [choice] if other == unknown else left[other] for other in left}


def first_choice(left, links):
    """The dict of a choice for each unknown out of those left for it, None if there is none."""
    waiting = [left]
    while waiting:
        found = narrowed(waiting.pop(), links)
        if found is not None:
            unsettled = [(len(found[unknown]), unknown) for unknown in found if len(found[unknown]) > 1]
            if not unsettled:
                return {unknown: found[unknown][0] for unknown in found}
            fewest = min(unsettled)[1]
            for choice in found[fewest]:
                waiting.append(with_choice(found, fewest, choice))
    return None
