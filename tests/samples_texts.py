"""Papers, right and wrong ones, and what the document says of them, line by line."""

import random
import re

from tests.samples import nested, other_values
from tests.samples_chains import some_chains, wrong_chains
from tests.samples_deals import PLAIN, some_deal, wrong_deals
from tests.samples_plans import some_plan, wrong_plans
from tests.samples_rules import WORDS, some_pairs, wrong_names, wrong_rules

NUMBER = "(?:0|[1-9][0-9]{0,300})"
PIECE = f"{NUMBER}(?:[+]{NUMBER}|-(?!0){NUMBER})"
NAMES = ["a", "b", "old", "new", "placed", "zzzzzzzz", "h", "x", "then", "end", "A", "h1", "plan", "phase", "abcdefghi"]
SPICE = ["0", "1", "4", "12", "01", "-0", "+0", "0+0", "3-4", "any", "done", "else", "and", "place", "if", "split", "\t"]


def rule_text(rule):
    """The words of a rule."""
    if rule[0] == "place":
        return f"place {rule[1]}"
    if rule[0] == "if":
        return f"if {rule[1]} {rule[2]} {rule[3]} then {rule_text(rule[4])} else {rule_text(rule[5])}"
    return f"split {rule[1]} {rule[2]} " + " and ".join(map(rule_text, rule[3]))


def entry_text(entry, ahead):
    """The lines of an entry, by the words of the document."""
    kind, name, value = entry
    if kind == "deal":
        pieces = "".join(f" {start}{'-' if shift < 0 else '+'}{abs(shift)}" for start, shift in value[1])
        return f"deal {name} {value[0]}{pieces}\n"
    if kind == "rule":
        return f"rule {name} {rule_text(value)}\n"
    if kind == "chain":
        rows = [f"{chooser} {value[chooser][0]} {' '.join(value[chooser][2])}\n" for chooser in sorted(value)]
        return f"chain {name}\n" + "".join(rows) + "end\n"
    names = [[deal[1] for deal in ahead if deal[0] == "deal" and deal[2] == wanted][0] for wanted in value[0]]
    text = f"plan {name} {' '.join(names)}\n" + "graves\n" * value[2] + "lag\n" * value[3]
    for puts, looks, clears, moves, end in value[1]:
        text += f"phase {end}\n"
        for word, numbers in (("put", puts), ("look", looks), ("clear", clears)):
            text += f"{word} {' '.join(map(str, numbers))}\n" if numbers else ""
        text += "".join(f"{word} {i} {j}\n" for word, i, j in moves)
    return text + "end\n"


def text_by_words(entries):
    return "".join(entry_text(entry, entries[:k]) for k, entry in enumerate(entries))


def some_name(chance, taken):
    """A name that is not taken yet."""
    while True:
        name = "".join(chance.choice("abcdefghijklmnopqrstuvwxyz") for _ in range(chance.choice([1, 2, 8])))
        if name not in WORDS and name not in taken:
            return name


def some_entries(chance, many, rules, chains):
    """So many entries, made at random; deals stand ahead, and some plans behind them."""
    names, deals, found = {}, [], []
    for _ in range(many):
        kind = chance.choice(["deal", "deal", "rule", "chain", "plan"] if deals else ["deal", "rule", "chain"])
        name = some_name(chance, names.get(kind, []))
        names.setdefault(kind, []).append(name)
        if kind == "deal":
            deals.append(chance.choice(deals) if deals and chance.random() < 0.2 else some_deal(chance, 12, 4))
            value = deals[-1]
        elif kind == "rule":
            value = chance.choice(rules)
        elif kind == "chain":
            value = chance.choice(chains)
        else:
            value = some_plan(chance, [chance.choice(deals) for _ in range(chance.randint(1, 2))])
        found.append((kind, name, value))
    return found


def some_papers(seed, many):
    """So many lists of entries, the same ones for each call with the same seed."""
    chance = random.Random(seed)
    rules = [rule for pair in some_pairs(seed + 1, 40) for rule in pair]
    chains = [chain for chain, _ in some_chains(seed + 2, 40)]
    return [some_entries(chance, chance.randint(0, 6), rules, chains) for _ in range(many)]


def spaced(chance, text):
    """The same text with more blanks, empty lines, and perhaps no line end at its end."""
    rows = text.split("\n")[:-1]
    found = []
    for row in rows:
        found += [" " * chance.randint(0, 2) for _ in range(chance.choice([0, 0, 0, 1, 2]))]
        words = [word + " " * chance.choice([1, 1, 2, 3]) for word in row.split(" ")]
        found.append(" " * chance.choice([0, 0, 1]) + "".join(words)[:None if chance.random() < 0.3 else -1].rstrip("\n"))
    return "\n".join(found) + chance.choice(["", "\n", "\n\n", "\n "])


def shuffled(chance, text):
    """The same text with some change that may make it wrong: of a word, a line, or the order of lines."""
    rows = [row.split(" ") for row in text.split("\n")]
    for _ in range(chance.choice([1, 1, 2])):
        row = chance.choice(rows)
        way = chance.randrange(7)
        if way == 0:
            rows.remove(row) if len(rows) > 1 else None
        elif way == 1:
            rows.insert(chance.randrange(len(rows) + 1), list(chance.choice(rows)))
        elif way == 2:
            row.insert(chance.randrange(len(row) + 1), chance.choice(SPICE + NAMES))
        elif way == 3:
            del row[chance.randrange(len(row))]
            row += [""] * (not row)
        elif way == 4:
            other = chance.choice(rows)
            row[chance.randrange(len(row))] = chance.choice(other)
        elif way == 5:
            del rows[chance.randrange(len(rows)) + 1:]
        else:
            row[chance.randrange(len(row))] = chance.choice(SPICE + NAMES)
    return "\n".join(" ".join(row) for row in rows)


class Wrong(Exception):
    """A line is wrong."""


def parse_rule(words):
    """The rule that a list of words tells, which is taken from the list from its beginning on."""
    def take(pattern):
        if not words or not re.fullmatch(pattern, words[0]):
            raise Wrong("line")
        return words.pop(0)

    kind = take("place|if|split")
    if kind == "place":
        return (kind, int(take(NUMBER)))
    name = take("(?s:.+)")
    many = int(take(NUMBER))
    if kind == "if":
        remainder = int(take(NUMBER))
        take("then")
        yes = parse_rule(words)
        take("else")
        return (kind, name, many, remainder, yes, parse_rule(words))
    if many == 0:
        raise Wrong("line")
    rules = [parse_rule(words)]
    for _ in range(min(many, 30000) - 1):
        take("and")
        rules.append(parse_rule(words))
    return (kind, name, many, tuple(rules))


def names_of_rule(rule):
    if rule[0] == "place":
        return []
    inner = rule[3] if rule[0] == "split" else rule[4:]
    return [rule[1]] + [name for part in inner for name in names_of_rule(part)]


class Reader:
    """Reads a paper line by line; what is wrong is told as (line, reason)."""

    def __init__(self, checks, is_name):
        self.checks = checks
        self.is_name = is_name
        self.entries = []
        self.amid = None
        # What may come next within a plan, as a pattern of first words.
        self.wanted = None

    def read(self, text):
        rows = text.split("\n")
        for number, row in enumerate(rows):
            words = [word for word in row.split(" ") if word]
            try:
                if words:
                    self.line(words)
            except Wrong as wrong:
                return (number, str(wrong))
        return (len(rows), "line") if self.amid else self.entries

    def need(self, holds, reason):
        if not holds:
            raise Wrong(reason)

    def new_name(self, kind, name):
        taken = [entry[1] for entry in self.entries if entry[0] == kind]
        self.need(self.is_name(name) and name not in taken, "name")

    def put(self, kind, name, value):
        self.need(self.checks[kind](value), kind)
        self.entries.append((kind, name, value))
        self.amid = None

    def line(self, words):
        if self.amid == "chain":
            return self.line_of_chain(words)
        if self.amid == "plan":
            return self.line_of_plan(words)
        text = " ".join(words)
        if words[0] == "deal":
            self.need(re.fullmatch(f"deal [^ ]+ {NUMBER}( {PIECE})+", text), "line")
            self.new_name("deal", words[1])
            pieces = [re.fullmatch("([0-9]+)([+-][0-9]+)", word).groups() for word in words[3:]]
            self.put("deal", words[1], (int(words[2]), tuple((int(start), int(shift)) for start, shift in pieces)))
        elif words[0] == "rule":
            rest = words[2:]
            rule = parse_rule(rest)
            self.need(not rest, "line")
            self.new_name("rule", words[1])
            self.need(all(map(self.is_name, names_of_rule(rule))), "name")
            self.put("rule", words[1], rule)
        else:
            self.need(words[0] == "chain" and len(words) == 2 or words[0] == "plan" and len(words) > 2, "line")
            self.new_name(words[0], words[1])
            self.begin(words)

    def begin(self, words):
        self.amid, self.name = words[:2]
        self.chain, self.phases, self.flags = {}, [], []
        if self.amid == "plan":
            known = {entry[1]: entry[2] for entry in self.entries if entry[0] == "deal"}
            self.need(all(name in known for name in words[2:]), "name")
            self.deals = tuple(known[name] for name in words[2:])
            self.wanted = "graves|lag|phase|end"

    def line_of_chain(self, words):
        if words[0] == "end":
            self.need(len(words) == 1, "line")
            return self.put("chain", self.name, self.chain)
        self.need(len(words) > 2, "line")
        self.need(all(map(self.is_name, words)) and words[0] not in self.chain, "name")
        self.chain[words[0]] = (words[1], len(words) - 2, tuple(words[2:]))

    def line_of_plan(self, words):
        text = " ".join(words)
        forms = f"graves|lag|end|phase (any|done)|(put|look|clear)( {NUMBER})+|(fill|renew|drop) {NUMBER} {NUMBER}"
        self.need(re.fullmatch(self.wanted, words[0]) and re.fullmatch(forms, text), "line")
        kind = words[0]
        numbers = tuple(int(word) for word in words[1:] if kind != "phase")
        self.wanted = {"graves": "lag|phase|end", "lag": "phase|end", "phase": "put", "put": "look",
                       "look": "clear|fill|renew|drop|phase|end"}.get(kind, "fill|renew|drop|phase|end")
        if kind == "end":
            phases = tuple(
                (phase["put"], phase["look"], phase["clear"], tuple(phase["moves"]), phase["end"]) for phase in self.phases)
            self.put("plan", self.name, (self.deals, phases, "graves" in self.flags, "lag" in self.flags))
        elif kind == "phase":
            self.phases.append({"end": words[1], "clear": (), "moves": []})
        elif kind in ("graves", "lag"):
            self.flags.append(kind)
        elif kind in ("put", "look", "clear"):
            self.phases[-1][kind] = numbers
        else:
            self.phases[-1]["moves"].append((kind,) + numbers)


def wrong_entries():
    """Values that are no lists of entries."""
    right = ("deal", "a", PLAIN)
    found = [value for value in other_values() if value != []]
    found += [(right,), {right: 1}, right, [right[:2]], [right + (1,)], [list(right)], [(right,)], [nested(100)]]
    found += [[("Deal", "a", PLAIN)], [("rule", "a", PLAIN)], [("chain", "a", PLAIN)], [("plan", "a", PLAIN)]]
    found += [[("deals", "a", PLAIN)], [("", "a", PLAIN)], [(None, "a", PLAIN)], [(("deal",), "a", PLAIN)], [([], "a", PLAIN)]]
    alone = ((PLAIN,), (((0,), (0,), (0,), (), "any"),), False, False)
    found += [[right, (kind, "b", alone)] for kind in ("deal", "rule", "chain", "plans", "Plan", "", None)]
    found += [[("deal", name, PLAIN)] for name in wrong_names()]
    found += [[right, ("deal", name, PLAIN)] for name in wrong_names()[::5]]
    for kind, wrongs in (("deal", wrong_deals()), ("rule", wrong_rules()), ("chain", wrong_chains()), ("plan", wrong_plans())):
        found += [[right, (kind, "b", wrong)] for wrong in wrongs]
    return found
