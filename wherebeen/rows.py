"""Rows of steps over roads, and of what families do at the forms to which they lead."""

from wherebeen.forms import is_index, is_tuple
from wherebeen.guide import ask_few
from wherebeen.houses import road_between, step_turn
from wherebeen.probes import unlike_test
from wherebeen.turns import turned_by_all


def is_step(house, spot, item):
    """Whether a tuple of two items is a step over a road from a form."""
    return item[0] == "go" and is_index(house[0], item[1]) and road_between(house, spot, item[1]) is not None


def is_row(house, families, thing):
    """Whether any value is a row, of a house and a tuple of families of it."""
    if not is_tuple(thing, 2, 2) or not is_index(house[0], thing[0]) or not isinstance(thing[1], tuple):
        return False
    spot = thing[0]
    for item in thing[1]:
        if not is_tuple(item, 2, 2):
            return False
        if is_step(house, spot, item):
            spot = item[1]
        elif item[0] != "do" or not is_index(families, item[1]):
            return False
    return True


def row_turns(house, families, row):
    """The list of the turns of all items of a row."""
    spot, items = row
    turns = []
    for label, index in items:
        if label == "go":
            turns.append(step_turn(house, spot, index))
            spot = index
        else:
            turns.append(families[index][spot])
    return turns


def row_led(house, families, row, worth):
    """What a worth of the first form of a row becomes by all its items."""
    return turned_by_all(row_turns(house, families, row), worth)


def moved_ahead(row):
    """The row that first does all that is done in a row, and then goes its way."""
    first, items = row
    done = [item for item in items if item[0] == "do"]
    gone = [item for item in items if item[0] == "go"]
    return (first, tuple(done + gone))


def same_rows(house, families, row, other):
    """Whether two rows with one first and one last form do the same for all worths."""
    ask_few(house)
    one, later = row_turns(house, families, row), row_turns(house, families, other)
    return unlike_test(house[0][row[0]], one, later) is None
