"""Walks: the mornings that the trips of a menu come to, numbered, and the ways from one to the next.

A morning is how one or two packings lie and which weathers can come then. A way is a tuple (weather, gain, number):
the weather of a day, what the first packing digs on it more than the second one (all that it digs, if it is alone),
and the number of the morning behind it. Equal mornings have one number, and there are few: so trips need not be walked
one by one.
"""

from dugdays.days import digs_for, put_behind


def live_through(packings, day):
    """Return the gain of a day and the morning behind it; the day is wishes, a way of putting back and later ones."""
    wishes, back, later = day
    made = [digs_for(packing, wishes) for packing in packings]
    lying = [tuple(put_behind(packing, wishes, back)) for packing in packings]
    return made[0] - sum(made[1:]), (tuple(lying), later)


def ways_from(menu, starts):
    """Return a list of the ways from each morning; each start, one or two packings, is one of the first mornings."""
    table = {name: (menu.wishes(name), menu.back(name), tuple(menu.later(name))) for name in menu.weathers}
    mornings = [(tuple([tuple(packing) for packing in start]), menu.weathers[:1]) for start in starts]
    numbers = {morning: number for number, morning in enumerate(mornings)}
    ways = []
    while len(ways) < len(mornings):
        lying, possible = mornings[len(ways)]
        on = []
        for weather in possible:
            gain, morning = live_through(lying, table[weather])
            if morning not in numbers:
                numbers[morning] = len(mornings)
                mornings.append(morning)
            on.append((weather, gain, numbers[morning]))
        ways.append(on)
    return ways


def best_gains(ways, days, sign):
    """Return a row for each number of days up to the one told: what trips from each morning gain at most.

    With the sign -1 each gain counts as a loss: then the rows hold the least gains, times -1.
    """
    rows = [[0] * len(ways)]
    for day in range(days):
        ahead = rows[day]
        rows.append([max([sign * gain + ahead[number] for weather, gain, number in on]) for on in ways])
    return rows


def days_back(came, last):
    """Return the days of the ring that comes to a morning, from there on; came tells the day ahead of each morning."""
    days = [came[last]]
    while days[-1][0] != last:
        days.append(came[days[-1][0]])
    return days[::-1]


def find_ring(came):
    """Return the days of a ring that came tells, or None if it tells of none."""
    passed = [None] * len(came)
    for start in range(len(came)):
        number = start
        while came[number] is not None and passed[number] is None:
            passed[number] = start
            number = came[number][0]
        if passed[number] == start:
            return days_back(came, number)
    return None


def gaining_ring(ways, gain, days):
    """Return a ring that gains more than so much in so many days, or None; its days are tuples (number, weather, gain).

    Each morning keeps the best that was found to lead there, counted from any morning. Without such a ring that comes
    to rest; with one it grows without end, and then the days that led to the best ones close to a ring.
    """
    best = [0] * len(ways)
    came = [None] * len(ways)
    ring = None
    grows = True
    while grows and ring is None:
        grows = False
        for number, on in enumerate(ways):
            for weather, more, after in on:
                found = best[number] + more * days - gain
                if found > best[after]:
                    best[after] = found
                    came[after] = (number, weather, more)
                    grows = True
        ring = find_ring(came)
    return ring
