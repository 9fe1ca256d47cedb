"""How a searcher crosses the parts of a text that is told by rules."""

from wordskips.trees import followed

NOTHING = (0, 0, 0)
START = (0, "")


class Crossings:
    """A searcher that crosses parts of a text; how it crosses a part is worked out once for each way to enter it.

    It enters a part with a pair (state, letters): the state in which its next turn begins, and the letters ahead of
    the part from the place of its window on. These are at most as many as the window is wide, as a turn waits only
    for the letter behind the window. A tally is a triple: how many reads, windows and told pairs there are.
    """

    def __init__(self, searcher, rules, sizes):
        self._searcher = searcher
        self._rules = rules
        self._sizes = sizes
        self._past = {}
        self._loops = {}

    def past(self, part, entry):
        """What the searcher enters with what is behind a part, and the tally of its turns up to there."""
        key = (part, entry)
        if key not in self._past:
            if part in self._rules:
                self._past[key] = self._past_pairs(self._rules[part], entry)
            else:
                turns, after = self._turns(part, entry)
                self._past[key] = (after, _tally(turns))
        return self._past[key]

    def past_copies(self, part, count, entry):
        """The same as past, for so many copies of a part."""
        tally = NOTHING
        met = {}
        while count > 0 and (part, entry) not in self._loops:
            if entry in met:
                self._keep_loop(part, entry)
            else:
                met[entry] = True
                entry, more = self.past(part, entry)
                tally = _sum(tally, more)
                count -= 1
        if count == 0:
            return entry, tally
        entries, tallies, index = self._loops[(part, entry)]
        rounds, rest = divmod(index + count, len(entries))
        more = [whole * rounds + end - begun for whole, end, begun in zip(tallies[-1], tallies[rest], tallies[index])]
        return entries[rest], _sum(tally, more)

    def at_end(self, entry):
        """The tally of the turn for which there is no letter behind the window, and the numbers that it tells."""
        state, signs = entry
        if len(signs) < self._searcher.width:
            return NOTHING, ()
        reads, tells, _ = followed(self._searcher.states[state], self._searcher.letters, signs)
        return (len(reads), 1, len(tells)), tells

    def told_at(self, part, entry, number):
        """The told pair with this number of those that past counts, its place counted from the part on."""
        place = 0
        while part in self._rules:
            part, before, entry, number = self._pair_with(part, entry, number)
            copies, entry, number = self._copy_with(part, entry, number)
            place += before + copies * self._sizes[part]
        turns, _ = self._turns(part, entry)
        told = [(place + at, word) for at, _, tells in turns for word in tells]
        return told[number]

    def _past_pairs(self, pairs, entry):
        tally = NOTHING
        for part, count in pairs:
            entry, more = self.past_copies(part, count, entry)
            tally = _sum(tally, more)
        return entry, tally

    def _turns(self, text, entry):
        """The turns over a text of letters, and what the searcher enters with what is behind it.

        A turn is a triple: its place, counted from the text on, how many reads it does, and the numbers it tells.
        """
        state, signs = entry
        width = self._searcher.width
        before = len(signs)
        signs += text
        place = 0
        turns = []
        while place + width < len(signs):
            tree = self._searcher.states[state]
            reads, tells, go = followed(tree, self._searcher.letters, signs[place:place + width + 1])
            turns.append((place - before, len(reads), tells))
            _, slide, state = go
            place += slide
        return turns, (state, signs[place:])

    def _keep_loop(self, part, entry):
        """Keep what comes around when copies of a part are crossed, from an entry on that comes again."""
        entries = []
        tallies = [NOTHING]
        member = entry
        while member != entry or not entries:
            entries.append(member)
            member, more = self.past(part, member)
            tallies.append(_sum(tallies[-1], more))
        for index, member in enumerate(entries):
            self._loops[(part, member)] = (entries, tallies, index)

    def _pair_with(self, name, entry, number):
        """The part of a rule in whose copies the told pair with this number comes.

        Also how many letters are ahead of it, the entry to it, and the number of the pair from there on.
        """
        place = 0
        for part, count in self._rules[name]:
            after, tally = self.past_copies(part, count, entry)
            if number < tally[2]:
                break
            entry = after
            number -= tally[2]
            place += count * self._sizes[part]
        return part, place, entry, number

    def _copy_with(self, part, entry, number):
        """How many copies of a part are ahead of the one in which the told pair with this number comes.

        Also the entry to that copy, and the number of the pair from there on.
        """
        copies = 0
        while True:
            if (part, entry) in self._loops:
                # Whole rounds lead to the same entry again.
                entries, tallies, _ = self._loops[(part, entry)]
                rounds, number = divmod(number, tallies[-1][2])
                copies += rounds * len(entries)
            after, tally = self.past(part, entry)
            if number < tally[2]:
                return copies, entry, number
            entry = after
            number -= tally[2]
            copies += 1


def _sum(one, other):
    return tuple([more + less for more, less in zip(one, other)])


def _tally(turns):
    """The tally of turns."""
    reads = sum([many for _, many, _ in turns])
    return reads, len(turns), sum([len(tells) for _, _, tells in turns])
