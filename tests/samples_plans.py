"""Plans, right and wrong ones, and what the document says of them, deed by deed."""

import random
from math import lcm

from bymarks.deals import plain
from tests.samples import nested
from tests.samples_deals import deal_of_pieces, place_in, product_of_pieces, some_deal, wrong_deals

OLD = ((0,), (0,), (0,), (), "any")
BOTH = ((0, 1), (0,), (0, 1), (("renew", 0, 1),), "done")
NEW = ((1,), (1,), (1,), (), "any")
TWO = (plain(4), plain(6))
WORDS = ("fill", "renew", "drop")


def buried(phase):
    """A phase without clears, for plans with graves."""
    return phase[:2] + ((),) + phase[3:]


def plan_of(phases, graves=False, lag=False, deals=TWO):
    """A plan; with graves its phases have no clears."""
    return (deals, tuple(buried(phase) if graves else phase for phase in phases), graves, lag)


def some_numbers(chance, many, least, most):
    return tuple(chance.sample(range(many), chance.randint(least, min(many, most))))


def some_phase(chance, many, graves):
    """A phase for so many deals, made at random."""
    moves = tuple(
        (chance.choice(WORDS),) + tuple(chance.sample(range(many), 2))
        for _ in range(chance.choice([0, 1, 2]) if many > 1 else 0)
    )
    puts = some_numbers(chance, many, 1, 2)
    # Where things are put, they are mostly looked for and cleared, so that some plans are right.
    looks = chance.choice([puts, puts[::-1], some_numbers(chance, many, 1, 2)])
    clears = chance.choice([puts, some_numbers(chance, many, 0, 3), some_numbers(chance, many, many, 3)])
    return (puts, looks, () if graves else clears, moves, chance.choice(["any", "done"]))


def some_plan(chance, deals, phases=None):
    """A plan with these deals, made at random."""
    graves, lag = chance.random() < 0.5, chance.random() < 0.6
    most = 2 if len(deals) == 3 else 4
    many = phases or chance.randint(1, most)
    return (tuple(deals), tuple(some_phase(chance, len(deals), graves) for _ in range(many)), graves, lag)


def some_small_deals(chance, many, greatest=7):
    """So many deals with small periods, made at random."""
    while True:
        deals = [some_deal(chance, greatest, 3) for _ in range(many)]
        if product_of_pieces(deals) <= 64 and lcm(*[deal[0] for deal in deals]) <= 400:
            return deals


def some_plans(seed, many, sizes=(1, 2, 2, 3)):
    """So many plans with small periods, the same ones for each call with the same seed."""
    chance = random.Random(seed)
    return [some_plan(chance, some_small_deals(chance, chance.choice(sizes))) for _ in range(many)]


class Store:
    """One thing in a store, by the words of the document."""

    def __init__(self, plan, mark):
        self.plan = plan
        self.places = [place_in(deal, mark) for deal in plan[0]]
        self.held = {}
        self.phase = 0
        self.mixed = False
        self.done = frozenset()
        self.moment = 0
        # Of each write, from the write 0 on: its kind, when it began and when it was finished.
        self.writes = [("take", -2, -1)]
        self.writing = None
        self.reading = None

    def copy(self):
        other = Store.__new__(Store)
        other.__dict__.update(self.__dict__)
        other.held = dict(self.held)
        other.writes = list(self.writes)
        return other

    def numbers(self):
        """The phases by whose lists writes and reads may begin."""
        return [self.phase - 1, self.phase] if self.mixed else [self.phase]

    def allowed(self):
        """The deeds that are allowed, in their order."""
        deals, phases, graves, lag = self.plan
        under_way = [one for one in (self.writing, self.reading) if one is not None]
        moves, end = phases[self.phase][3:]
        found = []
        if self.writing is None:
            found += [("put", n) for n in self.numbers()] + [("take", n) for n in self.numbers()]
        else:
            found += [("on",)]
        found += [("read", n) for n in self.numbers()] if self.reading is None else [("look",)]
        found += [("move", k) for k in range(len(moves))]
        if self.mixed and not any(one["phase"] == self.phase - 1 for one in under_way):
            found += [("leave",)]
        if self.phase < len(phases) - 1 and not self.mixed and (lag or not under_way):
            if end == "any" or all(k in self.done for k in range(len(moves))):
                found += [("next",)]
        return found

    def do(self, deed):
        """Do a deed; what a read tells that ends with it, and what is wrong with it, each None if nothing is."""
        self.moment += 1
        kind = deed[0]
        if kind in ("put", "take"):
            phase = self.plan[1][deed[1]]
            numbers = phase[0] if kind == "put" or self.plan[2] else phase[2]
            self.writing = {"phase": deed[1], "kind": kind, "numbers": numbers, "at": 0}
            self.writes.append((kind, self.moment, None))
            self.write_on()
        elif kind == "on":
            self.write_on()
        elif kind == "read":
            self.reading = {"phase": deed[1], "numbers": self.plan[1][deed[1]][1], "at": 0, "begin": self.moment}
            return self.look()
        elif kind == "look":
            return self.look()
        elif kind == "move":
            self.move(deed[1])
        else:
            self.mixed = kind == "next" and self.plan[3]
            self.phase += 1 if kind == "next" else 0
            self.done = frozenset()
        return None, None

    def write_on(self):
        self.writing = dict(self.writing)
        numbers, at = self.writing["numbers"], self.writing["at"]
        if at < len(numbers):
            place = self.places[numbers[at]]
            if self.writing["kind"] == "put":
                self.held[place] = ("value", len(self.writes) - 1)
            elif self.plan[2]:
                self.held[place] = ("grave", len(self.writes) - 1)
            else:
                self.held.pop(place, None)
        self.writing["at"] = at + 1
        if at + 1 >= len(numbers):
            self.writing = None
            self.writes[-1] = self.writes[-1][:2] + (self.moment,)

    def look(self):
        self.reading = dict(self.reading)
        numbers, at = self.reading["numbers"], self.reading["at"]
        found = self.held.get(self.places[numbers[at]])
        self.reading["at"] = at + 1
        if found is None and at + 1 < len(numbers):
            return None, None
        begin = self.reading["begin"]
        self.reading = None
        told = found if found is not None and found[0] == "value" else ("none",)
        return told, self.wrong(told, begin)

    def wrong(self, told, begin):
        """What is wrong with a read that began at this moment and ends now."""
        def fit(number):
            later = self.writes[number + 1:]
            return self.writes[number][1] < self.moment and not any(
                end is not None and end < begin for _, _, end in later)

        if told[0] == "value":
            finished = [kind for kind, _, end in self.writes if end is not None and end < begin]
            return None if fit(told[1]) else {"put": "stale", "take": "ghost"}[finished[-1]]
        takes = [number for number, write in enumerate(self.writes) if write[0] == "take"]
        return None if any(fit(number) for number in takes) else "missed"

    def move(self, k):
        if not self.mixed:
            self.done = self.done | {k}
        word, i, j = self.plan[1][self.phase][3][k]
        one, other = self.places[i], self.places[j]
        if one == other:
            return
        here, there = self.held.get(one), self.held.get(other)
        if word == "drop":
            if here is not None and there is not None and here[1] == there[1]:
                del self.held[one]
        elif here is not None and (there is None or word == "renew" and there[1] < here[1]):
            self.held[other] = here

    def told(self):
        """What the places of the deals hold."""
        return tuple(self.held.get(place, ("nothing",)) for place in self.places)

    def key(self):
        """What tells of the state, for the places of this thing: writes count by their order alone."""
        finished = [number for number, write in enumerate(self.writes) if write[2] is not None]
        takes = [number for number, write in enumerate(self.writes) if write[0] == "take"]
        since = []
        if self.reading is not None:
            since = [number for number in finished if self.writes[number][2] < self.reading["begin"]]
        told = [finished[-1], len(self.writes) - 1, takes[-1]] + since[-1:]
        order = sorted(set(told + [number for _, number in self.held.values()]))
        held = tuple(sorted((place, kind, order.index(number)) for place, (kind, number) in self.held.items()))
        under_way = [one and (one["phase"], one["at"], one.get("kind")) for one in (self.writing, self.reading)]
        ranks = tuple(order.index(number) for number in told)
        return held, self.phase, self.mixed, self.done, tuple(under_way), ranks, self.writes[finished[-1]][0]


def shortest_wrong(plan, mark):
    """The least of the shortest histories with a wrong read for a mark, and its word; or None."""
    first = Store(plan, mark)
    level, seen = [(first, [])], {first.key()}
    while level:
        following = []
        for store, history in level:
            for deed in store.allowed():
                further = store.copy()
                wrong = further.do(deed)[1]
                if wrong is not None:
                    return history + [deed], wrong
                if further.key() not in seen:
                    seen.add(further.key())
                    following.append((further, history + [deed]))
        level = following
    return None


def wrong_plans():
    """Values that are no plans: right ones with one thing wrong in each place."""
    right = plan_of([OLD, BOTH, NEW])
    found = [None, True, 0, "", "plan", (), [], {}, list(right), right[:3], right + (False,), nested(110), nested(110, list)]
    found += [right[:k] + (list(part),) + right[k + 1:] for k, part in enumerate(right[:2])]
    deals, phases = right[:2]
    for wrong in wrong_deals():
        found += [(wrong,) + right[1:], ((wrong,) + deals[1:],) + right[1:], (deals[:1] + (wrong,),) + right[1:]]
    found += [((),) + right[1:], (deals * 2, (OLD, NEW), False, False), (deals[:1] * 4, (OLD,), False, False)]
    for sizes in ((6, 6, 2), (5, 5, 3), (5, 4, 4), (3, 4, 6)):
        found += [(tuple(deal_of_pieces(many) for many in sizes), (OLD,), False, False)]
    found += [((deal_of_pieces(6), deal_of_pieces(6), plain(3), plain(3)), (OLD,), False, False)]
    found += [(deals, (), False, False), (deals, (OLD,) * 5, False, False), (deals + (plain(9),), (OLD,) * 3, False, False)]
    found += [(deals + (plain(9),), (OLD[:k] + ((0, 2, 1),) + OLD[k + 1:],), False, False) for k in (0, 1)]
    for wrong in (None, 0, 1, "", "True", (), [True]):
        found += [right[:2] + (wrong, False), right[:2] + (False, wrong)]
    return found + [(deals, (OLD, phase, NEW), graves, False) for graves, phase in wrong_phases()]


def wrong_phases():
    """Tuples (graves, phase), the phase being none of a plan with two deals and such graves."""
    right = BOTH
    found = [None, (), [], "", 0, right[:4], right + ("any",), list(right), (right,), nested(110)]
    wrongs = [None, True, 0, "0", "", [0], [], {0: 0}, {}, (None,), (True,), (False,), ("0",), ((0,),), (-1,), (2,), (3,)]
    wrongs += [(0, 0), (1, 1), (0, 2), (0, True), (False, 1), (0, -1), (0, 1, 0), (0, 1, 2), (0, 0, 1), nested(110)]
    for wrong in wrongs:
        found += [right[:k] + (wrong,) + right[k + 1:] for k in range(3)]
    found += [((),) + right[1:], right[:1] + ((),) + right[2:], right[:2] + ((0, 1, 0, 1),) + right[3:]]
    move = ("fill", 0, 1)
    moves = [None, True, 0, "", "fill", [], {}, [move], move, (move,) * 3, ((),), (None,), ("fill",), (list(move),)]
    moves += [(part,) for part in [move[:2], move + (1,), ("move", 0, 1), ("Fill", 0, 1), (None, 0, 1), ((), 0, 1),
                                   ("fill", 0, 0), ("drop", 1, 1), ("renew", 0, 2), ("fill", -1, 0), ("fill", 2, 0),
                                   ("fill", False, 1), ("fill", 0, True), ("fill", "0", 1), ("fill", 0, None),
                                   ("fill", 0, (1,)), (["fill"], 0, 1), ("", 0, 1)]]
    moves += [(move, part[0]) for part in moves[-18:]]
    found += [right[:3] + (wrong, "any") for wrong in moves]
    found += [right[:4] + (wrong,) for wrong in [None, True, 0, "", "all", "Any", "done ", (), ("any",), ["done"], {}]]
    buried_ones = [right[:2] + (clears,) + right[3:] for clears in [(0,), (0, 1), [], None, False]]
    return [(False, phase) for phase in found] + [(True, phase) for phase in buried_ones]
