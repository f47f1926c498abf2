"""A REGISTRY and a WISH made ready for searches: for LOCKS that fit, for REFUSALS if there are none."""

from newestfit.errors import TooMany
from newestfit.grids import Grid, has_bits
from newestfit.items import items_told, lots, states_from_best
from newestfit.lines import leaves_told, line_of_leaf
from newestfit.shapes import in_tuples

MOST_LOTS = 20000


def check_lots(registry, wish):
    """TooMany() if there are too many LOCKS of open VERSIONS."""
    if lots(registry, wish) > MOST_LOTS:
        raise TooMany()


class Board:
    """All that the searches look up. They look at the ITEMS of the ORDER in a row of their own, the path:
    those of first, those that have one STATE alone, then all others along the ORDER."""

    def __init__(self, registry, wish, first):
        registry, wish = in_tuples(registry), in_tuples(wish)
        self.along = items_told(registry, wish)
        self.choices = {item: states_from_best(registry, wish[2], item) for item in self.along}
        ahead = [item for item in self.along if item in first]
        ahead.extend([item for item in self.along if item not in first and len(self.choices[item]) == 1])
        self.path = ahead + [item for item in self.along if item not in ahead]
        # For the LOCKS: the places in the path, ITEMS ascending.
        self.ascending = [(item, self.path.index(item)) for item in sorted(self.path)]
        own_leaves = leaves_told(registry, wish)
        lines = [line_of_leaf(registry, wish, leaf) for leaf in own_leaves]
        self.grid = Grid(lines)
        self.shut = {}
        # The pairs (REFUSAL, bits of its LINE) of the LEAVES, by how many ITEMS of the path are told when
        # the last one of their LINE is.
        self.bars = [[] for _ in range(len(self.path) + 1)]
        for leaf, line in zip(own_leaves, lines):
            told = (("leaf", leaf), self.grid.line_bits(line))
            if leaf[0] == "none":
                self.shut[leaf[1]] = told
            else:
                self.bars[max([self.path.index(term[0]) + 1 for term in line], default=0)].append(told)
        self.bits = {item: [self.grid.state_bit(item, state) for state in self.choices[item]] for item in self.path}

    def bar_at(self, many, bits):
        """The pair (REFUSAL, its bits) of a LEAF that bars a path of so many ITEMS and speaks of the last of
        them; None without."""
        for told in self.bars[many]:
            if has_bits(told[1], bits):
                return told
        return None

    def bits_with(self, bits, item, state):
        """The bits of a path that goes on to this STATE of item."""
        own = self.bits[item][self.choices[item].index(state)]
        return (bits & ~self.grid.field(item)) | own

    def lock_by(self, trail):
        """The LOCK with these STATES along the path."""
        there = [(item, trail[place]) for item, place in self.ascending]
        return tuple([pair for pair in there if pair[1] is not None])

    def ranks_of(self, lock):
        """The places, along the ORDER, of the STATES of lock; None if a VERSION in it is not open."""
        there = {item: version for item, version in lock}
        found = []
        for item in self.along:
            state = there.pop(item, None)
            if state not in self.choices[item]:
                return None
            found.append(self.choices[item].index(state))
        return None if there else tuple(found)

    def is_fitting(self, lock):
        """Whether lock fits."""
        places = self.ranks_of(lock)
        if places is None:
            return False
        bits = 0
        for item, place in zip(self.along, places):
            bits = bits | self.bits[item][place]
        return not any(has_bits(told[1], bits) for bars in self.bars for told in bars)

    def search(self, begun, rows):
        """The pair (lock, None) with the first LOCK that fits and has the STATES in begun, a dict by ITEMS,
        each STATE open or None; the first by the STATES in rows, such a dict, too. The pair (None, refusal)
        if there is none: the LINE of refusal has TERMS at ITEMS of begun alone, and is met there."""
        bar = self.bar_at(0, self.grid.whole)
        if bar is not None:
            return None, bar[0]
        only = {item: rows[item] for item in self.path}
        only.update({item: (begun[item],) for item in begun if item in only})
        lock, refused = self._sought(0, self.grid.whole, [], begun, only)
        return lock, (None if refused is None else refused[0])

    def _sought(self, depth, bits, trail, begun, rows):
        """As search, from this place of the path on; the REFUSAL is a pair with its bits."""
        if depth == len(self.path):
            return self.lock_by(trail), None
        item, known = self.path[depth], []
        for state in rows[item]:
            now = self.bits_with(bits, item, state)
            if any(has_bits(told[1], now) for told in known):
                continue
            refused = self.bar_at(depth + 1, now)
            if refused is None:
                lock, refused = self._sought(depth + 1, now, trail + [state], begun, rows)
                if refused is None:
                    return lock, None
            # What says nothing of this ITEM refuses all its STATES.
            if item in begun or not self.grid.has_term(refused[1], item):
                return None, refused
            known.append(refused)
        return None, self._closed(item, known)

    def _closed(self, item, known):
        """The pair of all of known joined at item, of which they refuse each STATE."""
        refusal, line = known[0]
        rest = known[1:] + [self.shut[item]]
        for other, bits in rest:
            if self.grid.has_term(line, item):
                refusal, line = ("join", item, refusal, other), self.grid.joined(item, line, bits)
        return refusal, line

    def fitting(self, most):
        """The list of the best so many LOCKS that fit, of all if these are fewer; first is () here."""
        found = []
        if self.bar_at(0, self.grid.whole) is None:
            self._gather(0, self.grid.whole, [], most, found)
        return found

    def _gather(self, depth, bits, trail, most, found):
        if len(found) >= most:
            return
        if depth == len(self.path):
            found.append(self.lock_by(trail))
            return
        item = self.path[depth]
        for state in self.choices[item]:
            now = self.bits_with(bits, item, state)
            if self.bar_at(depth + 1, now) is None:
                self._gather(depth + 1, now, trail + [state], most, found)

    def looked(self):
        """The list of the BEGINNINGS at which THE SEARCH looks; first is the whole ORDER here."""
        found = []
        self._look(0, self.grid.whole, (), found)
        return found

    def _look(self, depth, bits, beginning, found):
        """Whether THE SEARCH stops here."""
        found.append(beginning)
        if self.bar_at(depth, bits) is not None:
            return False
        if depth == len(self.path):
            return True
        item = self.path[depth]
        place = len([own for own in self.path[:depth] if own < item])
        for state in self.choices[item]:
            longer = beginning[:place] + ((item, state),) + beginning[place:]
            if self._look(depth + 1, self.bits_with(bits, item, state), longer, found):
                return True
        return False
