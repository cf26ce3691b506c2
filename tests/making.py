"""Worths and programs made at random from a seed, the same ones in each run of the tests."""

import random

NAMES = ('a', 'b', 'c')
DEEDS = ('==', '<', '+', '-', '*')
CALLS = ('f', 'g')


class Maker:
    """What makes trees: from a seed, with calls or without."""

    def __init__(self, seed, calls=True):
        self.random = random.Random(seed)
        self.calls = calls

    def worth(self, deep):
        kind = self.random.randrange(9) if deep > 0 else self.random.randrange(3)
        if kind < 2:
            return ('num', self.random.choice((0, 1, 2, 3, 10)))
        if kind < 4:
            return ('name', self.random.choice(NAMES))
        if kind == 4:
            return ('neg', self.worth(deep - 1))
        if kind == 5 and self.calls:
            count = self.random.choice((0, 1, 1, 2))
            return ('call', self.random.choice(CALLS), tuple(self.worth(deep - 1) for _ in range(count)))
        return ('op', self.random.choice(DEEDS), self.worth(deep - 1), self.worth(deep - 1))

    def block(self, deep, inside, most=3):
        return tuple(self.step(deep, inside) for _ in range(self.random.randrange(most + 1)))

    def step(self, deep, inside):
        kind = self.random.randrange(8 if deep > 0 else 5)
        if kind < 2:
            return ('set', self.random.choice(NAMES), self.worth(2))
        if kind < 4:
            return ('say', self.worth(2))
        if kind == 4:
            return ('give', self.worth(2)) if inside else ('say', self.worth(3))
        if kind < 7:
            return ('if', self.worth(1), self.block(deep - 1, inside), self.block(deep - 1, inside, 2))
        return ('while', self.worth(1), self.block(deep - 1, inside))

    def program(self, deep=3):
        """Return a program that sets its names ahead, with two defs, so that many of such go on for a while."""
        rows = [('def', 'f', ('a',), self.block(deep - 1, True, 4)),
                ('def', 'g', ('a', 'b')[:self.random.randrange(3)], self.block(deep - 1, True, 4))]
        rows += [('set', name, ('num', self.random.randrange(4))) for name in NAMES]
        rows += list(self.block(deep, False, 6))
        return tuple(rows)


def programs(count, seed=1, calls=True):
    """Return so many programs, each of its own seed."""
    return [Maker(seed * 10000 + number, calls).program() for number in range(count)]
