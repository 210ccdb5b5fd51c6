"""Texts read row by row, and rows read word by word."""

from sameface.errors import BadRow
from sameface.words import number_of, words_of


def rows_of(text):
    """The rows of anything that is a text, a list."""
    if not isinstance(text, str):
        raise BadRow(0, 0)
    return text.split("\n")


def row_at(rows, number):
    """The row of this number, from 1, to be read; refused where it lacks."""
    if number > len(rows):
        raise BadRow(number, 1)
    return Row(number, rows[number - 1])


def need_no_more(rows, most):
    """Refuse the first row behind so many, whatever stands in it."""
    if len(rows) > most:
        raise BadRow(most + 1, 0)


class Row:
    """A row that is read from its first word on; what can't stand is refused where it stands."""

    def __init__(self, number, text):
        words = words_of(text)
        if words is None:
            raise BadRow(number, 0)
        self.number = number
        # None stands behind the last word, and can stand nowhere.
        self.words = [*words, None]
        self.at = 0

    def seen(self):
        """The next word, None where words lack."""
        return self.words[self.at]

    def take(self, stands):
        """The next word, gone by; refused where it is said that it can't stand."""
        if not stands:
            raise BadRow(self.number, self.at + 1)
        self.at += 1
        return self.words[self.at - 1]

    def take_word(self, word):
        """Go by the next word, which must be this one."""
        self.take(self.seen() == word)

    def take_number(self, least, most):
        """The number that is the next word, gone by."""
        number = number_of(self.seen())
        self.take(number is not None and least <= number <= most)
        return number

    def close(self):
        """Refuse the next word, where there is one."""
        if self.seen() is not None:
            raise BadRow(self.number, self.at + 1)
