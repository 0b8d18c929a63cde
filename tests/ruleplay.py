"""The rules of [33], played number by number up to a bound, with how many of the ended children have a tag.

A counted state is (state, number, tagged, living): of so many ended children in the pool, so many have the tag.
"""


def ended(content):
    return content != () and content[1] != -1


def put(names, contents, slot, content):
    return tuple(content if name == slot else old for name, old in zip(names, contents))


def grown(counted, behind, number=0, tagged=0, living=False):
    """The counted state at another state, with so much more."""
    return (behind, counted[1] + number, counted[2] + tagged, counted[3] or living)


def successors(kind, accounts, counted, tag='', awake=()):
    """All counted states to which the rules lead; accounts has (code, late) -> set of pairs (number, tagged) by name.
    No living child of a kind in awake is forked into the pool."""
    (place, contents), number, tagged, living = counted
    _, names, places = kind
    word, *parts = places[place]
    held = dict(zip(names, contents))

    def tag_of(content):
        return 1 if places[content[0]][2] == tag else 0

    if word == 'go':
        for target in parts[0]:
            yield grown(counted, (target, contents))
    elif word == 'fork':
        name, child_tag, slot, target = parts
        old = held.get(slot, ())
        base = counted
        if old:
            base = (grown(counted, counted[0], 1, tag_of(old)) if ended(old)
                    else grown(counted, counted[0], living=True))
        for code, late, brought, with_tag in [(-1, 1, 0, 0)] * (slot != '' or name not in awake) + [
                (code, late, *pair) for (code, late), pairs in accounts[name].items() if code < 2 for pair in pairs]:
            if slot:
                behind = (target, put(names, contents, slot, (place, code)))
                yield grown(base, behind, max(brought - 1, 0), with_tag, late == 1 and code != -1)
            else:
                own = 1 if child_tag == tag and code != -1 else 0
                yield grown(base, (target, contents), brought, with_tag + own, late == 1)
    elif word == 'kill':
        slot, target = parts
        if held[slot] and held[slot][1] == -1:
            fork = held[slot][0]
            behind = (target, put(names, contents, slot, (fork, 2)))
            for late in (0, 1):
                for brought, with_tag in accounts[places[fork][1]].get((2, late), ()):
                    yield grown(counted, behind, brought - 1, with_tag, late == 1)
        else:
            yield grown(counted, (target, contents))
    elif word == 'release':
        slot, target = parts
        old = held[slot]
        behind = (target, put(names, contents, slot, ()))
        yield (grown(counted, behind, 1, tag_of(old)) if ended(old) else grown(counted, behind, living=old != ()))
    elif word in ('wait', 'poll'):
        rows, pool, none = parts[:3]
        for row in rows:
            if ended(held[row[0]]):
                yield grown(counted, (row[1 + held[row[0]][1]], put(names, contents, row[0], ())))
        if pool != -1 and tagged:
            yield grown(counted, (pool, contents), -1, -1)
        if pool != -1 and number > tagged:
            yield grown(counted, (pool, contents), -1)
        if pool != -1:
            there = any(contents) or number > 0 or living
        else:
            there = any(held[row[0]] for row in rows)
        if not there:
            yield grown(counted, (none, contents))
        elif word == 'poll':
            yield grown(counted, (parts[3], contents))


def counted_states(kind, accounts, most, tag=''):
    """All counted states with numbers up to a bound that are reached without going beyond it."""
    first = ((0, ((),) * len(kind[1])), 0, 0, False)
    found, pending = {first}, [first]
    while pending:
        for after in successors(kind, accounts, pending.pop(), tag):
            if after[1] <= most and after not in found:
                found.add(after)
                pending.append(after)
    return found


def ends(kind, found, tag=''):
    """The account that counted states give: pairs (number, tagged) by (code, late)."""
    account = {}
    for (place, contents), number, tagged, living in found:
        dead = [content for content in contents if ended(content)]
        with_tag = sum(kind[2][content[0]][2] == tag for content in dead)
        late = 1 if living or any(content and content[1] == -1 for content in contents) else 0
        codes = [2] + ([kind[2][place][1]] if kind[2][place][0] == 'exit' else [])
        for code in codes:
            account.setdefault((code, late), set()).add((1 + len(dead) + number, with_tag + tagged))
    return account


def played_tables(system, most, tag=''):
    """The counted states and the accounts of all kinds, by name."""
    tables, accounts = {}, {}
    for kind in system[::-1]:
        tables[kind[0]] = counted_states(kind, accounts, most, tag)
        accounts[kind[0]] = ends(kind, tables[kind[0]], tag)
    return tables, accounts
