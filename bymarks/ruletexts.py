"""The words of rules."""

from bymarks.textlines import number_of


def words_of_rule(rule):
    """Return the list of the words of a rule."""
    if rule[0] == "place":
        return ["place", str(rule[1])]
    if rule[0] == "if":
        _, name, modulus, remainder, yes, no = rule
        begin = ["if", name, str(modulus), str(remainder), "then"]
        return begin + words_of_rule(yes) + ["else"] + words_of_rule(no)
    found = ["split", rule[1], str(rule[2])]
    for k, inner in enumerate(rule[3]):
        if k > 0:
            found.append("and")
        found.extend(words_of_rule(inner))
    return found


def word_at(words, at):
    """Return the word at a place, "" behind the last one."""
    return words[at] if at < len(words) else ""


def place_in(words, at):
    """Return (rule, behind) for a rule "place", at being where its number stands; or None."""
    place = number_of(word_at(words, at))
    return None if place is None else (("place", place), at + 1)


def if_in(words, at):
    """Return (rule, behind) for a rule "if", at being where its name stands; or None."""
    modulus, remainder = number_of(word_at(words, at + 1)), number_of(word_at(words, at + 2))
    if modulus is None or remainder is None or word_at(words, at + 3) != "then":
        return None
    yes = rule_in(words, at + 4)
    if yes is None or word_at(words, yes[1]) != "else":
        return None
    no = rule_in(words, yes[1] + 1)
    if no is None:
        return None
    return ("if", words[at], modulus, remainder, yes[0], no[0]), no[1]


def split_in(words, at):
    """Return (rule, behind) for a rule "split", at being where its name stands; or None."""
    many = number_of(word_at(words, at + 1))
    if many is None or many == 0:
        return None
    rules = []
    # One word stands ahead of each inner rule: the number for the first one, "and" for the others.
    ahead = at + 1
    while len(rules) < many:
        if rules and word_at(words, ahead) != "and":
            return None
        inner = rule_in(words, ahead + 1)
        if inner is None:
            return None
        rules.append(inner[0])
        ahead = inner[1]
    return ("split", words[at], many, tuple(rules)), ahead


def rule_in(words, at):
    """Return (rule, behind): what the words tell from a place on, and the place behind it; None if that is no rule.

    Names may be any words and numbers any numbers here.
    """
    kind = word_at(words, at)
    if kind == "place":
        return place_in(words, at + 1)
    if kind == "if":
        return if_in(words, at + 1)
    if kind == "split":
        return split_in(words, at + 1)
    return None
