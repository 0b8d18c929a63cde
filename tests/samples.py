"""Systems, runs and odd values that the tests share, and makers of random ones."""

import random

MAIN = ('main', ('h',), (('fork', 'lib', 'l', 'h', 1), ('fork', 'work', 'm', '', 2),
        ('wait', (('h', 3, 3, 3),), 4, 5, ('m',)), ('wait', (), 6, 5, ('m',)),
        ('wait', (('h', 6, 6, 6),), -1, 5, ('l',)), ('exit', 1), ('exit', 0)))
WORK = ('work', (), (('fork', 'lib', 'x', '', 1), ('exit', 0)))
LIB = ('lib', (), (('exit', 0),))
SYSTEM = (MAIN, WORK, LIB)
RUN = ((0, 'fork', -1), (0, 'fork', -1), (2, 'fork', -1), (2, 'exit', -1), (3, 'exit', -1), (0, 'take', 3))

# A system with each instruction, both slots, and polls with and without a pool.
BUSY = (
    ('top', ('a', 'b'), (
        ('fork', 'mid', 'x', 'a', 1), ('fork', 'mid', 'y', 'b', 2), ('go', (0, 3, 4)),
        ('poll', (('a', 4, 5, 6), ('b', 7, 8, 2)), 2, 9, 5, ('x', 'y')), ('kill', 'a', 5), ('release', 'b', 6),
        ('wait', (('b', 0, 7, 8),), -1, 7, ()), ('poll', (('a', 8, 8, 0),), -1, 8, 9, ('z',)),
        ('wait', (), 2, 9, ('w',)), ('exit', 1))),
    ('mid', ('a',), (
        ('go', (1, 2)), ('fork', 'low', 'z', 'a', 2), ('fork', 'low', 'w', '', 3), ('go', (0, 4, 5)),
        ('exit', 0), ('kill', 'a', 6), ('wait', (('a', 4, 4, 7),), 5, 7, ('z',)), ('exit', 1))),
    ('low', (), (('go', (1, 2)), ('exit', 0), ('exit', 1))),
)
# Children end with each code, or are killed, and are taken from the slot.
KEEPER = (('keep', ('s',), (('fork', 'low', 'x', 's', 1), ('go', (2, 3)), ('kill', 's', 3),
                            ('wait', (('s', 0, 1, 0),), 0, 0, ('x',)))), BUSY[2])
SYSTEMS = (SYSTEM, BUSY, KEEPER, (LIB,), (WORK, LIB))


class Odd:
    """An object that is equal to everything: only a look at the kind of a value tells it from others."""

    def __eq__(self, other):
        return True

    def __ne__(self, other):
        return False

    __hash__ = None


def odd_values():
    """Values of every kind that are no system, run, name or number set; new at each call."""
    from forkyields.numberclasses import Numbers
    from forkyields.systemclasses import System
    deep = ()
    for _ in range(30):
        deep = (deep, 1)
    return [None, True, False, -1, -2, '', 'A', 'a b', 'abcdefghi', '-', 'a1', ' ', 'Wait', [], ['a'], [1], [()],
            (None,), (True,), ('a', 'a'), ('b', 'a'), (2, 1), (1, 1), ((),), (((),),), deep, [deep], -10 ** 59,
            ('go', (True,)), [0, 'fork', -1], ((0, 'fork', True),), 'x' * 4000, Numbers(), System(SYSTEM), Odd()]


def numbers_and_names():
    """Plain right values, small and great."""
    return [0, 1, 2, 3, 10 ** 59, 'a', 'lib', 'abcdefgh', (), ('a',), ('a', 'b'), (0,), (0, 1), (3, 10 ** 59)]


def refusal(call, *values, **named):
    """The class of the error that a call raises, and its fields."""
    try:
        call(*values, **named)
    except ValueError as e:
        return (type(e).__name__, vars(e))
    return None


def not_usable(word, at=-1):
    return ('NotUsable', {'word': word, 'at': at})


def random_instruction(rng, later, slots, many):
    """An instruction of a kind with these slots and so many places, in front of these later kinds."""
    def place():
        return rng.randrange(many)

    def row(slot):
        return (slot, place(), place(), place())

    tags = tuple(sorted(rng.sample('tuvw', rng.randrange(3))))
    rows = tuple(row(slot) for slot in slots if rng.random() < 0.7)
    pool = place() if not rows or rng.random() < 0.6 else -1
    words = ['go', 'exit', 'wait', 'wait', 'poll'] + ['fork'] * 4 * bool(later) + ['kill', 'release'] * bool(slots)
    word = rng.choice(words)
    if word == 'go':
        return ('go', tuple(sorted({place(), place()})))
    if word == 'fork':
        return ('fork', rng.choice(later), rng.choice('tuvw'), rng.choice([*slots, '']), place())
    if word == 'wait':
        return ('wait', rows, pool, place(), tags)
    if word == 'poll':
        return ('poll', rows, pool, place(), place(), tags)
    if word in ('kill', 'release'):
        return (word, rng.choice(slots), place())
    return ('exit', rng.randrange(2))


def random_system(rng):
    names = rng.sample(['a', 'bb', 'main', 'lib', 'zz', 'kind', 'go'], rng.randint(1, 4))
    kinds = []
    for i, name in enumerate(names):
        slots = tuple(sorted(rng.sample(['a', 'h', 'kk'], rng.randrange(3))))
        many = rng.randint(1, 7)
        later = names[i + 1:]
        kinds.append((name, slots, tuple(random_instruction(rng, later, slots, many) for _ in range(many))))
    return tuple(kinds)


def random_systems(seed, many):
    rng = random.Random(seed)
    return [random_system(rng) for _ in range(many)]


def spoiled(thing):
    """All values that differ from a tuple in one place, at any depth."""
    leaves = [None, True, False, -1, 0, 1, 2, 99, '', 'a', 'h', 'zz', 'A', 'lib', 'abcdefghi', (), ('a',), (0,), [], [1], Odd()]
    for leaf in leaves:
        if leaf is not thing:
            yield leaf
    if isinstance(thing, tuple):
        yield list(thing)
        yield (*thing, *thing[-1:])
        yield (*thing, None)
        yield thing[::-1]
        for k in range(len(thing)):
            yield thing[:k] + thing[k + 1:]
            yield thing[:k] + thing[k:k + 1] + thing[k:]
            for part in spoiled(thing[k]):
                yield thing[:k] + (part,) + thing[k + 1:]


def same(first, second):
    """Whether two values are equal and of the same kinds at any depth."""
    return repr(first) == repr(second)


def lively_kind(rng, name, later, slots, many):
    """A kind that mostly goes on from place to place and forks a lot; its last place is an exit."""
    def place(p):
        return p + 1 if rng.random() < 0.75 else rng.randrange(many)

    places = []
    for p in range(many - 1):
        words = ['go', 'wait', 'poll'] * (1 + p) + ['fork'] * (9 if p < 3 else 4 + 2 * p) * bool(later)
        words += ['kill', 'release'] * p * bool(slots) + ['exit'] * (p // 3)
        word = rng.choice(words)
        tags = tuple(sorted(rng.sample('tuv', rng.randrange(3))))
        rows = tuple((slot, place(p), place(p), place(p)) for slot in slots if rng.random() < 0.6)
        pool = place(p) if not rows or rng.random() < 0.6 else -1
        places.append({
            'go': ('go', tuple(sorted({place(p), rng.randrange(many)}))),
            'fork': ('fork', rng.choice(later or ['']), rng.choice('tuv'), rng.choice([*slots, '']), place(p)),
            'wait': ('wait', rows, pool, place(p), tags), 'poll': ('poll', rows, pool, place(p), place(p), tags),
            'kill': ('kill', rng.choice(slots or ['']), place(p)),
            'release': ('release', rng.choice(slots or ['']), place(p)), 'exit': ('exit', rng.randrange(2))}[word])
    return (name, slots, (*places, ('exit', rng.randrange(2))))


def lively_system(rng, kinds=4, places=7, slots=2):
    names = [f'k{letter}' for letter in 'abcdefgh'[:rng.randint(min(kinds, 2), kinds)]]
    made = []
    for i, name in enumerate(names):
        own = tuple(sorted(rng.sample('ab', rng.randint(0, slots))))
        made.append(lively_kind(rng, name, names[i + 1:], own, rng.randint(2, places)))
    return tuple(made)


def lively_systems(seed, many, **sizes):
    rng = random.Random(seed)
    return [lively_system(rng, **sizes) for _ in range(many)]


def sleepy_kind(rng, name, later, slots, many):
    """A kind that forks into slots and waits, mostly for what does not come; its last place is an exit."""
    def place(p):
        return p + 1 if rng.random() < 0.9 else rng.randrange(many)

    places = []
    for p in range(many - 1):
        words = ['fork'] * (9 if p == 0 else 4) * bool(later) + ['wait'] * (1 + 8 * p) + ['go', 'poll', 'exit'] * (p > 0)
        words += ['kill', 'release'] * bool(p and slots)
        word = rng.choice(words)
        tags = tuple(sorted(rng.sample('tuv', rng.randrange(3))))
        rows = tuple((slot, place(p), place(p), place(p)) for slot in slots if rng.random() < 0.25)
        pool = place(p) if not rows or rng.random() < 0.5 else -1
        places.append({
            'go': ('go', tuple(sorted({place(p), rng.randrange(many)}))),
            'fork': ('fork', rng.choice(later or ['']), rng.choice('tuv'), rng.choice([*slots, *slots, *slots, '']), place(p)),
            'wait': ('wait', rows, pool, place(p), tags), 'poll': ('poll', rows, pool, place(p), place(p), tags),
            'kill': ('kill', rng.choice(slots or ['']), place(p)),
            'release': ('release', rng.choice(slots or ['']), place(p)), 'exit': ('exit', rng.randrange(2))}[word])
    return (name, slots, (*places, ('exit', rng.randrange(2))))


def sleepy_system(rng, kinds=4, places=6, tail=()):
    """A system of such kinds; those of tail stand behind them."""
    names = [f's{letter}' for letter in 'abcdefgh'[:rng.randint(2, kinds)]]
    ends = [kind[0] for kind in tail]
    made = []
    for i, name in enumerate(names):
        later = names[i + 1:] + ends
        own = ('a', 'b')[:rng.choice((1, 1, 2)) if later else 0]
        made.append(sleepy_kind(rng, name, later, own, rng.randint(3 if later else 1, places)))
    return (*made, *tail)


def sleepy_systems(seed, many, **sizes):
    rng = random.Random(seed)
    return [sleepy_system(rng, **sizes) for _ in range(many)]
