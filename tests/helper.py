"""What several files of tests use: trees of each kind, and a look through a value for what isn't a tuple."""

ONE = ('num', 1)
TWO = ('num', 2)
NAMED = ('name', 'a')
BARE_CALL = ('call', 'f', ())
CALL = ('call', 'f', (('name', 'c'), BARE_CALL, ('neg', ('name', 'b'))))
DEEP = ('op', '+', ('op', '*', NAMED, CALL), ('neg', ('op', '<', ('name', 'b'), ('num', 0))))
WORTHS = (ONE, ('num', 0), ('num', 10 ** 30), NAMED, ('op', '==', ONE, NAMED), ('neg', ('neg', ONE)), BARE_CALL, CALL,
          DEEP)

SET = ('set', 'a', DEEP)
SAY = ('say', NAMED)
GIVE = ('give', CALL)
BARE_IF = ('if', ONE, (), ())
BARE_WHILE = ('while', NAMED, ())
BARE_DEF = ('def', 'g', (), ())
IF = ('if', ('op', '<', ('name', 'z'), ONE), (SAY, BARE_WHILE), (('if', TWO, (SET,), (SAY, SAY)),))
IF_ALONE = ('if', NAMED, (SET,), ())
WHILE = ('while', CALL, (IF, SAY, IF_ALONE))
DEF = ('def', 'f', ('x', 'y'), (WHILE, ('if', ONE, (GIVE,), (SET, ('while', TWO, (GIVE,)))), GIVE))
OUTER_STEPS = (SET, SAY, BARE_IF, BARE_WHILE, IF, IF_ALONE, WHILE)
PROGRAM = (SAY, DEF, IF, BARE_DEF, WHILE, SET)


def tuples_throughout(value):
    """Tell whether a value is a tuple, and all rows within it are."""
    if isinstance(value, (list, dict, set)):
        return False
    if not isinstance(value, tuple):
        return True
    return all(tuples_throughout(part) for part in value)
