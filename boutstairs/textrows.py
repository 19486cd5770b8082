"""Reading texts: rows, words and number words."""

from boutstairs.errors import BadText

FIGURES = "0123456789"
MOST_FIGURES = 10
# The greatest side, exit and round of a text.
MOST_SMALL = 31


def number_in(word, least, most):
    """The number that a word tells; None unless it is a number word from least to most."""
    figures = word.removeprefix("-")
    if not 1 <= len(figures) <= MOST_FIGURES or any(figure not in FIGURES for figure in figures):
        return None
    if figures != "0" and figures.startswith("0") or word == "-0":
        return None
    number = int(figures) if figures == word else -int(figures)
    return number if least <= number <= most else None


def numbers_in(words, least, most):
    """The numbers that some words tell; None if one of them is bad."""
    found = [number_in(word, least, most) for word in words]
    return None if None in found else tuple(found)


def so_many(words, many, least, most):
    """The numbers that just so many words tell; None if there are others or one of them is bad."""
    return numbers_in(words, least, most) if len(words) == many else None


def numbers_behind(row, word, least, most):
    """The numbers of a row that begins with this word; None if it does not, or one of them is bad."""
    words = row.split(" ")
    return numbers_in(words[1:], least, most) if words[0] == word else None


def many_behind(row, word, many, least, most):
    """The numbers of a row of this word and just so many numbers; None if it is no such row."""
    words = row.split(" ")
    return so_many(words[1:], many, least, most) if words[0] == word else None


def read_head(rows, word, least, most):
    """The number of a first row of this word and a number."""
    found = many_behind(rows[0], word, 1, least, most)
    if found is None:
        raise BadText(0)
    return found[0]


def read_rows(rows, first, many, read):
    """What is read from so many rows, from the index first on; read takes a row and its place among them."""
    found = []
    for place in range(many):
        index = first + place
        told = read(rows[index], place) if index < len(rows) else None
        if told is None:
            raise BadText(index)
        found.append(told)
    return tuple(found)


def check_end(rows, many):
    """Refuse rows behind the first so many."""
    if len(rows) > many:
        raise BadText(many)


def spaced(word, numbers):
    """The row of a word and numbers."""
    return " ".join([word] + [str(number) for number in numbers])
