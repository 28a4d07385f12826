"""Values that several tests use: wrong classes and terms, and terms made at random from a seed."""

import random


def nested(levels, of=tuple):
    """Return a tuple or list within such ones, on so many levels."""
    value = of()
    for _ in range(levels - 1):
        value = of((value,))
    return value


def other_values():
    """Values of every kind that are neither classes nor terms nor lists of classes."""
    return [
        None, True, False, 0, 1, -1, 5, 10 ** 300, "", "class", "all", "(4, 1)", "ab",
        (), {}, {4: 1}, {"class": (4, 1)}, nested(110), nested(110, list), ("x",) * 2999, [()] * 2999, [None], [[]],
    ]


def wrong_numbers():
    """Values that are no integers from 0 on."""
    return [None, True, False, -1, -10 ** 300, "", "3", (), (3,), [], [3], {}, {3: 3}, nested(110)]


def wrong_classes():
    """Values that are no classes."""
    found = other_values() + [
        [4, 1], [4], (4,), (4, 1, 0), (4, 1, 1), ((4, 1),), [(4, 1)], ("class", 4, 1), ("4", "1"),
        (0, 0), (4, 4), (4, 5), (1, 1), (4, -1), (-4, 1), (-4, -1), (-4, -5), (10 ** 30, 10 ** 30),
    ]
    for wrong in other_values():
        if wrong not in (1, 5, 10 ** 300) or isinstance(wrong, bool):
            found.append((wrong, 0))
        if wrong not in (0, 1) or isinstance(wrong, bool):
            found.append((4, wrong))
    return found


def wrong_class_lists(most):
    """Values that are no lists of at most so many classes."""
    found = [value for value in other_values() if value != []]
    found += [((4, 1), (6, 3)), {(4, 1): (6, 3)}, (4, 1), [4, 1], [(4, 1)] * (most + 1), [(4, 1)] * 1000]
    for wrong in wrong_classes():
        found += [[wrong], [wrong, (4, 1)], [(4, 1), (6, 3), wrong]]
    return found


def fold(kind, terms):
    """Join terms, from the left."""
    joined = terms[0]
    for term in terms[1:]:
        joined = (kind, joined, term)
    return joined


def fold_flat(kind, terms):
    """Join terms with as few levels as can be."""
    while len(terms) > 1:
        pairs = [(kind,) + tuple(terms[k:k + 2]) for k in range(0, len(terms) - 1, 2)]
        terms = pairs + terms[len(pairs) * 2:]
    return terms[0]


def exclusive(one, other):
    """The term of the marks that lie in just one of two sets."""
    return ("and", ("or", one, other), ("not", ("and", one, other)))


def term_of_size(many):
    """A term with so many terms in it, and few levels."""
    if many % 2 == 0:
        return ("not", term_of_size(many - 1))
    return fold_flat("or", [("class", 2, 0)] * ((many + 1) // 2))


def size_of(term):
    """How many terms stand in a term, itself included."""
    return 1 if term[0] == "class" else 1 + sum(size_of(inner) for inner in term[1:])


def levels_of(term):
    """How many levels a term has."""
    return 1 if term[0] == "class" else 1 + max([levels_of(inner) for inner in term[1:]], default=0)


def term_of_levels(levels):
    """A term with so many levels."""
    term = ("class", 3, 1)
    for _ in range(levels - 1):
        term = ("not", term)
    return term


def wrong_terms():
    """Values that are no terms, but for those that only exceed a size."""
    right = ("class", 4, 1)
    found = other_values() + [
        ["all"], ["class", 4, 1], ("all", right), ("none", right), ("all", 1), ("none", ()),
        ("class",), ("class", 4), ("class", 4, 1, 0), ("class", (4, 1)), ("class", right), (4, 1), (1, 0),
        ("not",), ("not", right, right), ("and",), ("and", right), ("and", right, right, right),
        ("or",), ("or", right), ("or", right, right, right), ("xor", right, right), ("ALL",), ("all ",), ("", right),
        (("all",),), (None, right), (True, right, right), (["and"], right, right), ({}, right, right), (0, right),
        ("class", 4, 4), ("class", 4, -1), ("class", 0, 0), ("class", -4, 1), ("class", 10 ** 300 + 1, 1),
    ]
    for wrong in other_values():
        found += [("class", 4, wrong)] if wrong not in (0, 1) or isinstance(wrong, bool) else []
        found += [("class", wrong, 0)] if wrong not in (1, 5, 10 ** 300) or isinstance(wrong, bool) else []
    for wrong in list(found):
        found += [("not", wrong), ("and", wrong, right), ("and", right, wrong), ("or", wrong, right)]
        found += [("or", right, wrong), ("not", ("and", ("not", right), ("not", wrong)))]
    return found


def some_classes(chance, many, greatest):
    """Classes with small moduli, made at random."""
    moduli = [chance.randint(1, greatest) for _ in range(many)]
    return [(modulus, chance.randrange(modulus)) for modulus in moduli]


def some_term(chance, classes, steps):
    """A term made at random, with some of the classes in it."""
    if steps == 0 or chance.random() < 0.1:
        return chance.choice([("class",) + one for one in classes] * 3 + [("all",), ("none",)])
    kind = chance.choice(["not", "and", "and", "or", "or"])
    many = 1 if kind == "not" else 2
    return (kind,) + tuple(some_term(chance, classes, steps - 1) for _ in range(many))


def some_terms(seed, many, most_classes=4, greatest=12):
    """So many random terms, the same ones for each call with the same seed."""
    chance = random.Random(seed)
    found = []
    for _ in range(many):
        classes = some_classes(chance, chance.randint(1, most_classes), greatest)
        found.append(some_term(chance, classes, chance.randint(0, 4)))
    return found


def in_set(term, mark):
    """Tell by the words of the document whether a mark lies in the set of a term."""
    if term[0] in ("all", "none"):
        return term[0] == "all"
    if term[0] == "class":
        return mark % term[1] == term[2]
    inner = [in_set(one, mark) for one in term[1:]]
    if term[0] == "not":
        return not inner[0]
    return all(inner) if term[0] == "and" else any(inner)


def in_none(mark, classes):
    """Tell whether a mark lies in none of the classes."""
    return not any(mark % modulus == remainder for modulus, remainder in classes)
