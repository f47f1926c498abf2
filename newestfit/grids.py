"""LINES as numbers, so that many of them are put together and looked at fast.

For each ITEM a number has a bit for None, and one for each grain of VERSIONS that the RANGES told of
this ITEM do not part; a bit is set where the TERM of the ITEM holds. Without a TERM all are set.
"""

from newestfit.ranges import range_cuts, range_of
from newestfit.shapes import in_tuples


class Grid:
    """The bits of the ITEMS and RANGES of some LINES, which are made of tuples."""

    def __init__(self, lines):
        spans = {}
        for line in lines:
            for item, _, span in line:
                spans.setdefault(item, {})[span] = True
        self.cuts = {}
        self.starts = {}
        self.fields = {}
        start = 0
        for item in sorted(spans):
            self.cuts[item] = range_cuts(list(spans[item]))
            self.starts[item] = start
            many = len(self.cuts[item]) + 1
            self.fields[item] = ((1 << many) - 1) << start
            start = start + many
        self.whole = (1 << start) - 1

    def field(self, item):
        """All bits of item; 0 if no LINE has a TERM at it."""
        return self.fields.get(item, 0)

    def term_bits(self, item, absent, span):
        """The bits at which a TERM holds; its RANGE has no ends but those of the grid."""
        cuts = self.cuts[item]
        found = 1 if absent else 0
        for low, high in span:
            behind = len(cuts) if high is None else cuts.index(high)
            found = found | ((1 << (behind + 1)) - (1 << (cuts.index(low) + 1)))
        return found << self.starts[item]

    def line_bits(self, line):
        found = self.whole
        for item, absent, span in line:
            found = (found & ~self.fields[item]) | self.term_bits(item, absent, span)
        return found

    def state_bit(self, item, state):
        """The bit of item, at which some LINE has a TERM, for a STATE, whatever its VERSION."""
        if state is None:
            return 1 << self.starts[item]
        behind = [cut for cut in self.cuts[item] if cut <= state]
        return 1 << (self.starts[item] + len(behind))

    def told_bits(self, told, is_whole):
        """The bits of the STATES in told, a dict by ITEMS; of all other ITEMS that of None if told is
        a whole LOCK, else all."""
        found = 0
        for item in self.fields:
            if item in told:
                found = found | self.state_bit(item, told[item])
            else:
                found = found | (self.state_bit(item, None) if is_whole else self.fields[item])
        return found

    def lock_bits(self, lock):
        """A LOCK meets a LINE exactly if the LINE has all these bits."""
        return self.told_bits({item: version for item, version in in_tuples(lock)}, True)

    def begun_bits(self, beginning):
        """A BEGINNING meets a LINE exactly if the LINE has all these bits."""
        return self.told_bits({item: state for item, state in in_tuples(beginning)}, False)

    def joined(self, item, near, far):
        """The bits of the LINE of a join at item of LINES with these bits."""
        return (near & far) | ((near | far) & self.field(item))

    def has_term(self, bits, item):
        """Whether the LINE with these bits has a TERM at item."""
        return bits & self.field(item) != self.field(item)

    def line_told(self, bits):
        """The LINE with these bits."""
        terms = []
        for item in sorted(self.fields):
            if self.has_term(bits, item):
                terms.append(self._term_told(bits >> self.starts[item], item))
        return tuple(terms)

    def _term_told(self, bits, item):
        """The TERM of item with these bits, the first being that of None."""
        cuts = self.cuts[item]
        pairs = list(zip(cuts, cuts[1:] + [None]))
        held = [pair for k, pair in enumerate(pairs) if bits >> (k + 1) & 1 == 1]
        return (item, bits & 1 == 1, range_of(held))


def has_bits(line, bits):
    """Whether the bits of a LINE have all these."""
    return line & bits == bits
