"""Names: which values are names of marks, choosers, entries and things."""

LETTERS = "abcdefghijklmnopqrstuvwxyz"
MOST_LETTERS = 8
WORDS = (
    "all", "and", "chain", "clear", "class", "deal", "drop", "else", "end", "fill", "if", "look", "none", "not", "or",
    "phase", "place", "plan", "put", "renew", "rule", "self", "split", "then",
)


def is_name(value):
    """Tell whether the value is a name."""
    if not isinstance(value, str) or not 1 <= len(value) <= MOST_LETTERS or value in WORDS:
        return False
    return all([letter in LETTERS for letter in value])
