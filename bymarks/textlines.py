"""Lines of a text: their words, the numbers and pieces for which words stand, and lines that are wrong."""

from bymarks.errors import InvalidLine
from bymarks.names import is_name

DIGITS = "0123456789"
MOST_DIGITS = 301


def lines_of(text):
    """Return the list of tuples (number, words) of the lines that have words.

    Behind them stands (many, []), many being the number of all lines: what still wants a line comes to it.
    """
    rows = text.split("\n")
    lines = [(number, [word for word in row.split(" ") if word != ""]) for number, row in enumerate(rows)]
    return [line for line in lines if line[1]] + [(len(rows), [])]


def need(holds, line, reason):
    """Raise InvalidLine for a line, a tuple (number, words), if what it needs does not hold."""
    if not holds:
        raise InvalidLine(line[0], reason)


def need_names(line, words):
    """Raise InvalidLine if one of the words of a line is no name."""
    need(all([is_name(word) for word in words]), line, "name")


def need_new_name(line, kind, known):
    """Raise InvalidLine if the name of an entry is none, or is that of another one of the kind."""
    name = line[1][1]
    need(is_name(name) and (kind, name) not in known, line, "name")


def is_numeral(word):
    """Tell whether the word stands for a number."""
    if not 1 <= len(word) <= MOST_DIGITS or not all([sign in DIGITS for sign in word]):
        return False
    return word == "0" or word[0] != "0"


def number_of(word):
    """Return the number for which a word stands, or None."""
    return int(word) if is_numeral(word) else None


def numbers_behind(line, word, least, most):
    """Return the tuple of the numbers behind the word with which a line begins; raise InvalidLine for another line.

    There are at least and at most so many numbers, most being None for any.
    """
    words = line[1]
    need(words[:1] == [word] and all([is_numeral(part) for part in words[1:]]), line, "line")
    need(least < len(words) and (most is None or len(words) <= most + 1), line, "line")
    return tuple([int(part) for part in words[1:]])


def piece_of(word):
    """Return the piece (start, shift) of a deal for which a word stands, or None."""
    sign = "+" if "+" in word else "-"
    start, _, amount = word.partition(sign)
    if not is_numeral(start) or not is_numeral(amount):
        return None
    if sign == "+":
        return int(start), int(amount)
    return None if amount == "0" else (int(start), -int(amount))


def word_of_piece(piece):
    """Return the word for a piece of a deal."""
    start, shift = piece
    return f"{start}+{shift}" if shift >= 0 else f"{start}-{-shift}"
