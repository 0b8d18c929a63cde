"""The one form of a number set, made from single members and from progressions that go on and on."""

from math import lcm


def gathered(early, starts, period):
    """The number set of the members early and, for each start, of start, start + period and so on."""
    if not starts:
        return (tuple(sorted(set(early))), (), 0)
    least = least_starts(starts, period)
    small = least_period(sorted(set(least)), period)
    begins = merged_begins(least, period, small)
    below = {n: True for n in early}
    between = {n: True for r in least for n in range(least[r], begins[r % small], period)}
    repeats = [lowest_begin(begins[r], small, below, between) for r in begins]
    lowest = {start % small: start for start in repeats}
    rest = [n for n in [*below, *between] if n % small not in lowest or n < lowest[n % small]]
    return (tuple(sorted(set(rest))), tuple(sorted(set(repeats))), small)


def least_starts(starts, period):
    """For each remainder by period that a start has, the least such start."""
    least = {}
    for start in starts:
        r = start % period
        if r not in least or start < least[r]:
            least[r] = start
    return least


def least_period(remainders, period):
    """The least period of what repeats with these ascending remainders by period."""
    ends = remainders[1:] + [remainders[0] + period]
    gaps = [high - low for low, high in zip(remainders, ends)]
    for many in range(1, len(gaps)):
        # Comparing is dear, and only a divisor of their number can turn the gaps onto themselves.
        if len(gaps) % many == 0 and gaps == gaps[many:] + gaps[:many]:
            return sum(gaps[:many])
    return period


def merged_begins(least, period, small):
    """For each remainder by the lesser period, from where on all its numbers are members."""
    tops = {}
    for start in least.values():
        r = start % small
        if r not in tops or start > tops[r]:
            tops[r] = start
    # The start that comes last has its last gap one period before it.
    return {r: tops[r] - period + small for r in tops}


def lowest_begin(begin, period, below, between):
    """The begin of a progression, moved down as long as single members stand right before it."""
    while begin - period in below or begin - period in between:
        begin = begin - period
    return begin


def is_least_form(early, repeats, period):
    """Whether early members and starts, both ascending, are the one form of their set."""
    if period == 0:
        return repeats == ()
    begins = starts_by_remainder((early, repeats, period))
    if not repeats or len(begins) < len(repeats):
        return False
    if not all([n % period not in begins or n < begins[n % period] - period for n in early]):
        return False
    return least_period(sorted(set(begins)), period) == period


def holds(told, number):
    """Whether a number is a member of a number set."""
    early, repeats, period = told
    return number in early or any([r <= number and (number - r) % period == 0 for r in repeats])


def is_endless(told):
    """Whether a number set has no greatest member."""
    return told[2] > 0


def spread(told, period):
    """The starts of a number set for a multiple of its period; a finite set has none."""
    return [n for r in told[1] for n in range(r, r + period, told[2])]


def starts_by_remainder(told):
    """For each remainder by the period with which members go on and on, their start."""
    return {start % told[2]: start for start in told[1]}


def goes_on_in(start, step, told, starts):
    """Whether start, start + step and so on are members of told, which has these starts by remainder."""
    early, period = told[0], told[2]
    if start % period not in starts:
        return False
    while start < starts[start % period]:
        if start not in early:
            return False
        # The step is a multiple of the period, so the remainder stays.
        start = start + step
    return True


def lies_within(told, other):
    """Whether each member of told is one of other."""
    if not all([holds(other, n) for n in told[0]]):
        return False
    if not is_endless(told) or not is_endless(other):
        return not is_endless(told)
    whole = lcm(told[2], other[2])
    starts = starts_by_remainder(other)
    return all([goes_on_in(start, whole, other, starts) for start in spread(told, whole)])


def union_of(parts):
    """The number set of all members of any of these number sets."""
    whole = 1
    for part in parts:
        whole = lcm(whole, part[2]) if is_endless(part) else whole
    early = [n for part in parts for n in part[0]]
    return gathered(early, [start for part in parts for start in spread(part, whole)], whole)


def greatest_in(told):
    """The greatest member, -1 if there is none, None if there is no greatest one."""
    if is_endless(told):
        return None
    return told[0][-1] if told[0] else -1


def shifted(told, by):
    """The number set of each member plus by, those below 0 left out."""
    early, repeats, period = told
    starts = [r + by if r + by >= 0 else (r + by) % period for r in repeats]
    return gathered([n + by for n in early if n + by >= 0], starts, period)


def many_to(told, number):
    """How many members are at most this number."""
    early, repeats, period = told
    of_early = len([n for n in early if n <= number])
    return of_early + sum([(number - r) // period + 1 for r in repeats if r <= number])


def has_index(told, index):
    """Whether a number set has more members than the number index."""
    return is_endless(told) or index < len(told[0])


def member_at(told, index):
    """The member with this index, ascending; there is one."""
    if not is_endless(told):
        return told[0][index]
    low, high = 0, told[1][0] + told[2] * index
    while low < high:
        middle = (low + high) // 2
        if many_to(told, middle) > index:
            high = middle
        else:
            low = middle + 1
    return low


def told_text(told):
    """The members of early, then the progressions as START+PERIOD; - without any."""
    early, repeats, period = told
    words = [str(n) for n in early] + [f"{start}+{period}" for start in repeats]
    return ", ".join(words) if words else "-"
