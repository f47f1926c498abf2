"""The largest REGISTRIES and the hardest ones within the bounds of [3]."""

from support import EVERY, YES, made_mark, made_range

SIX = ("ape", "bee", "cat", "dog", "elk", "fox")
WORDS = ("a", "b", "c", "d", "e", "f")


def full_range(rng):
    """A RANGE of three pairs, numbers to 99."""
    while True:
        span = made_range(rng, 3, 99)
        if len(span) == 3:
            return span


def full_registry(rng):
    """As much of everything as is allowed; MARKS that mostly hold somewhere."""
    found = []
    for name in SIX:
        for version in sorted({(rng.randint(0, 99), rng.randint(0, 99), rng.randint(0, 99), 0) for _ in range(4)}):
            def needs(many):
                return tuple([(rng.choice(SIX), full_range(rng), ("p", "q"), made_mark(rng, WORDS, 6)) for _ in range(many)])

            clashes = tuple([(rng.choice(SIX), full_range(rng)) for _ in range(2)])
            found.append((name, version, needs(3), (("p", needs(2)), ("q", needs(2))), clashes, False))
    return tuple(found), (tuple([(name, EVERY, ("p", "q"), YES) for name in SIX[:4]]), WORDS, SIX)


def colours():
    """Six NAMES of four VERSIONS each, no two of which may have the same: nothing fits."""
    found = []
    for k, name in enumerate(SIX):
        for number in range(1, 5):
            version = (number, 0, 0, 0)
            others = [SIX[(k + step) % 6] for step in ((1, 2, 3) if k < 3 else (1, 2))]
            but = (((0, 0, 0, -9), version), ((number, 0, 1, -9), None))
            found.append((name, version, tuple([(other, but, (), YES) for other in others]), (), (), False))
    return tuple(found), (tuple([(name, EVERY, (), YES) for name in SIX[:4]]), (), ())
