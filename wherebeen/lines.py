"""The lines of a text, and the tokens in them."""

from wherebeen.errors import NoText

QUOTE = '"'


def word_end(row, at):
    """The index behind the word between quotes that begins at an index, 0 if it is not closed."""
    end = row.find(QUOTE, at + 1)
    while end >= 0 and row[end + 1:end + 2] == QUOTE:
        end = row.find(QUOTE, end + 2)
    return end + 1


def bare_end(row, at):
    """The index behind the token without quotes that begins at an index."""
    end = at
    while end < len(row) and row[end] not in (" ", QUOTE, "#"):
        end += 1
    return end


def blanks_end(row, at):
    """The index of the first character from an index on that is no blank."""
    end = at
    while end < len(row) and row[end] == " ":
        end += 1
    return end


class Line:
    """A line with its index, whose tokens are taken one behind the other.

    A word between quotes is a tuple of what it tells, any other token a string, so that none is taken for the other.
    """

    def __init__(self, number, row):
        self.number = number
        self.row = row
        self.at = blanks_end(row, 0)

    def is_done(self):
        """Whether no token is left."""
        return self.row[self.at:self.at + 1] in ("", "#")

    def take(self):
        """Takes the next token and returns it."""
        if self.is_done():
            raise NoText(self.number)
        first = self.at
        quoted = self.row[first] == QUOTE
        end = word_end(self.row, first) if quoted else bare_end(self.row, first)
        if end == 0 or self.row[end:end + 1] not in ("", " ", "#"):
            raise NoText(self.number)
        self.at = blanks_end(self.row, end)
        if quoted:
            return (self.row[first + 1:end - 1].replace(QUOTE + QUOTE, QUOTE),)
        return self.row[first:end]

    def end(self):
        """Asks that no token is left."""
        if not self.is_done():
            raise NoText(self.number)


def lines_of(text):
    """The list of the lines of a text that have a token."""
    lines = [Line(number, row) for number, row in enumerate(text.split("\n"))]
    return [line for line in lines if not line.is_done()]


def lines_many(text):
    """How many lines a text has, with those that have no token."""
    return text.count("\n") + 1
