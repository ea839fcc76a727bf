"""The tests of forms, that stand for all worths, and what can be told by them."""

from wherebeen.errors import TooMany
from wherebeen.turns import turned, turned_by_all
from wherebeen.worths import all_choices, product_of, with_item


def base_tests(at, base):
    """The list of the test values of a base in the field with an index."""
    return [f"~{at}"] if base[0] == "word" else list(range(base[1]))


def second_item(base, item):
    """What stands behind a test value in a row of two."""
    return item + "~" if base[0] == "word" else (item + 1) % base[1]


def field_tests(at, kind):
    """The list of the test values of the field with an index, which is of a kind."""
    if kind[0] in ("word", "pick"):
        return base_tests(at, kind)
    items = base_tests(at, kind[1])
    alone = [(item,) for item in items]
    if kind[0] == "maybe":
        return [None] + alone
    return [()] + alone + [(item, second_item(kind[1], item)) for item in items]


def all_field_tests(form):
    """The list of the lists of the test values of all fields."""
    return [field_tests(at, field[1]) for at, field in enumerate(form)]


def tests_many(form):
    """How many tests a form has."""
    return product_of([len(values) for values in all_field_tests(form)])


def tests_of(form):
    """The list of the tests of a form."""
    if tests_many(form) > 500:
        raise TooMany(500)
    return all_choices(all_field_tests(form))


def unlike_test(form, one, other):
    """The first test of which two rows of turns, each done one behind the other, give unlike worths, or None."""
    for test in tests_of(form):
        if turned_by_all(one, test) != turned_by_all(other, test):
            return test
    return None


def parting_test(form, one, other):
    """The first test of which two turns give unlike worths, None if they give the same for all worths."""
    return unlike_test(form, (one,), (other,))


def same_turns(form, one, other):
    """Whether two turns give the same for all worths."""
    return parting_test(form, one, other) is None


def other_words(value):
    """The value with words in the place of its words that stand in no test, and are never said."""
    if isinstance(value, tuple):
        return tuple([other_words(item) for item in value])
    return "~" + value if isinstance(value, str) else value


def fields_changed(form, turn, outcomes, at):
    """The list of the indexes of the fields of a turn's outcome to which the field with an index matters.

    outcomes is a dict from all tests of the form to what the turn gives of them.
    """
    first = field_tests(at, form[at][1])[0]
    changed = {}
    for test, outcome in outcomes.items():
        # tests that are alike but for this field are all held against the one with its first value
        like = outcomes[with_item(test, at, first)]
        renamed = turned(turn, with_item(test, at, other_words(test[at])))
        for field, value in enumerate(outcome):
            if value != like[field] or value != renamed[field]:
                changed[field] = True
    return list(changed)


def matters(form, turn):
    """For each field of a turn's outcome, the ascending tuple of the indexes of the fields that matter to it."""
    outcomes = {test: turned(turn, test) for test in tests_of(form)}
    changed = [fields_changed(form, turn, outcomes, at) for at in range(len(form))]
    return tuple([tuple([at for at, fields in enumerate(changed) if field in fields]) for field in range(len(turn))])
