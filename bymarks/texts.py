"""Papers: texts that tell deals, rules, chains and plans by names.

While a text is read, known is a dict from the tuples (kind, name) of the entries that stand already to their values.
"""

from bymarks.chains import is_chain
from bymarks.deals import is_deal
from bymarks.errors import InvalidEntries, InvalidLine
from bymarks.names import is_name
from bymarks.plans import is_plan
from bymarks.plantexts import lines_of_plan, plan_from
from bymarks.rules import is_rule, name_places
from bymarks.ruletexts import rule_in, words_of_rule
from bymarks.textlines import is_numeral, lines_of, need, need_names, need_new_name, piece_of, word_of_piece


def is_value_of(kind, value):
    """Tell whether the value is one that an entry of this kind has."""
    if kind == "deal":
        return is_deal(value)
    if kind == "rule":
        return is_rule(value)
    if kind == "chain":
        return is_chain(value)
    return kind == "plan" and is_plan(value)


def is_entry(value):
    """Tell whether the value is an entry of some paper."""
    if not isinstance(value, tuple) or len(value) != 3 or not isinstance(value[0], str):
        return False
    return is_name(value[1]) and is_value_of(value[0], value[2])


def names_of_deals(entries):
    """Return a dict from the deals of a list of entries to their first names; raise InvalidEntries for what is none."""
    if not isinstance(entries, list):
        raise InvalidEntries("a list of entries is needed")
    names = {}
    known = {}
    for entry in entries:
        if not is_entry(entry):
            raise InvalidEntries("an entry is a tuple (kind, name, value)")
        kind, name, value = entry
        if (kind, name) in known:
            raise InvalidEntries("two entries of one kind have the same name")
        known[kind, name] = True
        if kind == "deal" and value not in names:
            names[value] = name
        if kind == "plan" and not all([deal in names for deal in value[0]]):
            raise InvalidEntries("a deal of a plan does not stand ahead of it")
    return names


def lines_of_chain(name, chain):
    """Return the list of the lines of a chain."""
    rows = [[chooser, chain[chooser][0]] + list(chain[chooser][2]) for chooser in sorted(chain)]
    return [f"chain {name}"] + [" ".join(row) for row in rows] + ["end"]


def lines_of_entry(entry, names):
    """Return the list of the lines of an entry, names being a dict from the deals to their names."""
    kind, name, value = entry
    if kind == "deal":
        return [" ".join(["deal", name, str(value[0])] + [word_of_piece(piece) for piece in value[1]])]
    if kind == "rule":
        return [" ".join(["rule", name] + words_of_rule(value))]
    if kind == "chain":
        return lines_of_chain(name, value)
    return lines_of_plan(name, value, names)


def paper_text(entries):
    """Return the text of the entries."""
    names = names_of_deals(entries)
    return "".join([line + "\n" for entry in entries for line in lines_of_entry(entry, names)])


def deal_from(line, known):
    """Return the deal that a line tells."""
    words = line[1]
    pieces = [piece_of(word) for word in words[3:]]
    need(len(pieces) > 0 and is_numeral(words[2]) and None not in pieces, line, "line")
    need_new_name(line, "deal", known)
    deal = (int(words[2]), tuple(pieces))
    need(is_deal(deal), line, "deal")
    return deal


def rule_from(line, known):
    """Return the rule that a line tells."""
    words = line[1]
    found = rule_in(words, 2)
    need(found is not None and found[1] == len(words), line, "line")
    need_new_name(line, "rule", known)
    need_names(line, name_places(found[0]))
    need(is_rule(found[0]), line, "rule")
    return found[0]


def chain_from(lines, at, known):
    """Return (chain, behind): the chain whose lines begin at a place, and the place behind them."""
    need(len(lines[at][1]) == 2, lines[at], "line")
    need_new_name(lines[at], "chain", known)
    chain = {}
    at = at + 1
    while lines[at][1][:1] != ["end"]:
        words = lines[at][1]
        need(len(words) > 2, lines[at], "line")
        need_names(lines[at], words)
        need(words[0] not in chain, lines[at], "name")
        chain[words[0]] = (words[1], len(words) - 2, tuple(words[2:]))
        at = at + 1
    need(lines[at][1] == ["end"], lines[at], "line")
    need(is_chain(chain), lines[at], "chain")
    return chain, at + 1


def value_from(lines, at, known):
    """Return (value, behind): the value of the entry whose lines begin at a place, and the place behind them."""
    kind = lines[at][1][0]
    if kind == "deal":
        return deal_from(lines[at], known), at + 1
    if kind == "rule":
        return rule_from(lines[at], known), at + 1
    if kind == "chain":
        return chain_from(lines, at, known)
    if kind == "plan":
        return plan_from(lines, at, known)
    raise InvalidLine(lines[at][0], "line")


def read_paper(text):
    """Return the list of the entries of the text."""
    if not isinstance(text, str):
        raise InvalidLine(0, "text")
    lines = lines_of(text)
    known = {}
    entries = []
    at = 0
    while at + 1 < len(lines):
        words = lines[at][1]
        value, at = value_from(lines, at, known)
        known[words[0], words[1]] = value
        entries.append((words[0], words[1], value))
    return entries
