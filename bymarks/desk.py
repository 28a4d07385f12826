"""A watch over things whose marks nobody knows, told by where they were seen."""

from bymarks.deals import check_deal
from bymarks.errors import (
    CannotBe, InvalidName, KnownThing, MarkError, NothingToUndo, SameThing, TooMany, UnknownDeed, UnknownThing,
)
from bymarks.names import is_name
from bymarks.runs import check_place
from bymarks.seen import MOST_SIGHTINGS, have_common_mark, known, least_common_mark, told

MOST_THINGS = 8
SIZES = {"enter": 2, "see": 4, "merge": 3, "undo": 1, "block": 2}


class Trial:
    """A block in which all deeds of a watch are taken back if an error leaves it."""

    def __init__(self, watch):
        self.watch = watch
        self.table = {}
        self.past = []

    def __enter__(self):
        self.table = self.watch.table
        self.past = list(self.watch.past)
        return self.watch

    def __exit__(self, kind, value, trace):
        watch = self.watch
        if kind is not None:
            watch.table = self.table
            watch.past = self.past


class Watch:
    """Some things, and where they were seen.

    The table is a dict from the things to the tuples of their sightings. A table is never changed, but put in
    the place of another one; past is the list of the tables ahead of the deeds that can be taken back.
    """

    def __init__(self):
        self.table = {}
        self.past = []

    def _put_table(self, table):
        """Make this the table, so that the deed can be taken back."""
        self.past.append(self.table)
        self.table = table

    def _check_watched(self, thing):
        """Raise UnknownThing for what is not watched."""
        if thing not in self:
            raise UnknownThing("this thing is not watched")

    def enter(self, thing):
        """Take in a new thing without sightings."""
        if not is_name(thing):
            raise InvalidName("a thing is named by a name")
        if thing in self:
            raise KnownThing("this thing is watched already")
        if len(self.table) == MOST_THINGS:
            raise TooMany(f"at most {MOST_THINGS} things are watched")
        self._put_table({**self.table, thing: ()})

    def see(self, thing, deal, place):
        """Put a sighting behind those of the thing."""
        self._check_watched(thing)
        check_deal(deal)
        check_place(place)
        sightings = self.table[thing] + ((deal, place),)
        check_can_be(sightings)
        self._put_table({**self.table, thing: sightings})

    def merge(self, one, other):
        """Take in that two things are one: the other one is not watched any more."""
        self._check_watched(one)
        self._check_watched(other)
        if one == other:
            raise SameThing("a thing is not merged with itself")
        sightings = self.table[one] + self.table[other]
        check_can_be(sightings)
        table = {thing: self.table[thing] for thing in self.table if thing != other}
        table[one] = sightings
        self._put_table(table)

    def undo(self):
        """Take back the last of the deeds that has not been taken back."""
        if not self.past:
            raise NothingToUndo("no deed is left to be taken back")
        self.table = self.past.pop()

    def trial(self):
        """Return a block for a with statement: if an error leaves it, the watch is as it was when it began."""
        return Trial(self)

    def remainders(self, thing):
        """Return (modulus, remainders): what is known of the mark of a thing."""
        return known(self[thing])

    def where(self, thing, deal):
        """Return what is told of the place of a thing by a deal."""
        return told(self[thing], deal)

    def shared(self, one, other):
        """Return the least mark that both things can have, or None."""
        return least_common_mark(self.remainders(one), self.remainders(other))

    def unlike(self):
        """Return the ascending list of the tuples of two things that cannot have one mark."""
        things = sorted(self.table)
        left = [self.remainders(thing) for thing in things]
        return [
            (things[i], things[j])
            for i in range(len(things))
            for j in range(i + 1, len(things))
            if not have_common_mark(left[i], left[j])
        ]

    def things(self):
        """Return the list of the things in the order in which they were taken in."""
        return list(self.table)

    def __getitem__(self, thing):
        self._check_watched(thing)
        return list(self.table[thing])

    def __iter__(self):
        raise TypeError("the things of a watch are not gone through, but for those of things")

    def __contains__(self, thing):
        return is_name(thing) and thing in self.table

    def __len__(self):
        return len(self.table)


def check_can_be(sightings):
    """Raise the errors for the tuple of all sightings that a thing would have."""
    if len(sightings) > MOST_SIGHTINGS:
        raise TooMany(f"a thing has at most {MOST_SIGHTINGS} sightings")
    if not known(list(sightings))[1]:
        raise CannotBe("no mark would be left")


def has_form(deed):
    """Tell whether the value is an entry of deeds, whatever stands in it."""
    if not isinstance(deed, tuple) or len(deed) == 0 or not isinstance(deed[0], str):
        return False
    if len(deed) != SIZES.get(deed[0], 0):
        return False
    return deed[0] != "block" or isinstance(deed[1], list)


def try_block(watch, deeds):
    """Do a block of deeds; if one of them is refused, all is as it was when the block began."""
    try:
        try_all(watch, deeds)
    except MarkError:
        pass


def do_deed(watch, deed):
    """Do what an entry tells."""
    if not has_form(deed):
        raise UnknownDeed("the entry has none of the forms of deeds")
    if deed[0] == "enter":
        watch.enter(deed[1])
    elif deed[0] == "see":
        watch.see(deed[1], deed[2], deed[3])
    elif deed[0] == "merge":
        watch.merge(deed[1], deed[2])
    elif deed[0] == "undo":
        watch.undo()
    else:
        try_block(watch, deed[1])


def try_all(watch, deeds):
    """Do what the entries tell, one behind the other, in a block."""
    with watch.trial():
        for deed in deeds:
            do_deed(watch, deed)
