"""Programs carried out by the tests themselves, as point 5 tells it, in another way than the package does."""


class Stop(Exception):
    """What can't go on."""


class Given(Exception):
    """What a give gives."""

    def __init__(self, value):
        Exception.__init__(self)
        self.value = value


class Machine:
    """One run: what it said, the steps that it used, and the defs that are there."""

    def __init__(self, most):
        self.most = most
        self.used = 0
        self.said = []
        self.defs = {}

    def use(self):
        if self.used == self.most:
            raise Stop
        self.used += 1

    def steps(self, rows, names, deep):
        for row in rows:
            self.use()
            getattr(self, 'do_' + row[0])(row, names, deep)

    def do_set(self, row, names, deep):
        names[row[1]] = self.value(row[2], names, deep)

    def do_say(self, row, names, deep):
        self.said.append(self.value(row[1], names, deep))

    def do_give(self, row, names, deep):
        raise Given(self.value(row[1], names, deep))

    def do_def(self, row, names, deep):
        self.defs[row[1]] = row

    def do_if(self, row, names, deep):
        self.steps(row[3] if self.value(row[1], names, deep) == 0 else row[2], names, deep)

    def do_while(self, row, names, deep):
        while self.value(row[1], names, deep):
            self.use()
            self.steps(row[2], names, deep)

    def value(self, tree, names, deep):
        if tree[0] == 'num':
            return tree[1]
        if tree[0] == 'name':
            if tree[1] in names:
                return names[tree[1]]
            raise Stop
        if tree[0] == 'neg':
            return 0 - self.value(tree[1], names, deep)
        if tree[0] == 'call':
            return self.called(tree, names, deep)
        left = self.value(tree[2], names, deep)
        right = self.value(tree[3], names, deep)
        found = {'==': lambda: int(left == right), '<': lambda: int(left < right), '+': lambda: left + right,
                 '-': lambda: left - right, '*': lambda: left * right}[tree[1]]()
        if len(str(abs(found))) > 30:
            raise Stop
        return found

    def called(self, tree, names, deep):
        if deep == 40 or tree[1] not in self.defs:
            raise Stop
        self.use()
        _, _, params, steps = self.defs[tree[1]]
        values = [self.value(worth, names, deep) for worth in tree[2]]
        if len(values) != len(params):
            raise Stop
        try:
            self.steps(steps, dict(zip(params, values)), deep + 1)
        except Given as given:
            return given.value
        return 0


def carried_out(rows, most=1000):
    """Return (what is said, whether it couldn't go on, the outer names, the steps used) of a program."""
    machine = Machine(most)
    names = {}
    try:
        machine.steps(rows, names, 0)
    except Stop:
        return (tuple(machine.said), True, names, machine.used)
    return (tuple(machine.said), False, names, machine.used)
