"""The texts that show values, forms, worths, expressions, turns, ways and houses."""

from wherebeen.parts import inner_kinds, inner_parts


def show_value(kind, value):
    """The writing of a value of a kind."""
    if kind[0] == "maybe":
        return "-" if value is None else "some " + show_value(kind[1], value[0])
    if kind[0] == "row":
        return " ".join(["["] + [show_value(kind[1], item) for item in value] + ["]"])
    if kind[0] == "word":
        return '"' + value.replace('"', '""') + '"'
    return str(value)


def show_kind(kind):
    """The writing of a kind."""
    if kind[0] in ("maybe", "row"):
        return f"{kind[0]} {show_kind(kind[1])}"
    return "word" if kind[0] == "word" else f"pick {kind[1]}"


def show_head(form, kind, head):
    """The writing of an expression for a kind, without those in it, which stand behind it."""
    label = head[0]
    if label in ("copy", "is", "first"):
        return f"{label} {form[head[1]][0]}"
    if label == "say":
        return "say " + show_value(kind, head[1])
    if label == "when":
        return f"when {len(head[2])}"
    if label == "table":
        return "table " + show_value(("row", kind), head[2])
    return label


def show_expression(form, kind, expression):
    """The writing of an expression for a kind, by a form."""
    shown = []
    waiting = [(kind, expression)]
    while waiting:
        wanted, part = waiting.pop()
        shown.append(show_head(form, wanted, part))
        inner = list(zip(inner_kinds(wanted, part), inner_parts(part)))
        waiting.extend(inner[::-1])
    return " ".join(shown)


def form_lines(form):
    """The list of the lines that show a form."""
    return [f"field {name} {show_kind(kind)}" for name, kind in form]


def turn_lines(form, other, turn):
    """The list of the lines that show a turn from one form to another one."""
    return [f"{field[0]} {show_expression(form, field[1], part)}" for field, part in zip(other, turn)]


def show_form(form):
    """The text of a form."""
    return "\n".join(form_lines(form))


def show_worth(form, worth):
    """The text of a worth of a form."""
    return "\n".join([f"{field[0]} {show_value(field[1], value)}" for field, value in zip(form, worth)])


def show_turn(form, other, turn):
    """The text of a turn from one form to another one."""
    return "\n".join(turn_lines(form, other, turn))


def show_way(way):
    """The text of a way, one line."""
    return " ".join([str(spot) for spot in way])


def road_lines(forms, road):
    """The list of the lines that show a road between two of these forms."""
    one, other = forms[road[0]], forms[road[1]]
    there = ["there " + line for line in turn_lines(one, other, road[2])]
    back = ["back " + line for line in turn_lines(other, one, road[3])]
    return [f"road {road[0]} {road[1]}"] + there + back


def show_house(house):
    """The text of a house."""
    lines = []
    for form in house[0]:
        lines.append("form")
        lines.extend(form_lines(form))
    for road in house[1]:
        lines.extend(road_lines(house[0], road))
    return "\n".join(lines)
