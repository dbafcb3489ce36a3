"""Choices: what can be kept to where worn things are put back on top in any sequence.

An evening is a tuple (weather, lying): the day's weather, and how the things lie if they are put back in the sequence
of the wishes. Equal evenings leave the same choices, so each is looked at once, whichever trip and choices led to it.
"""

from itertools import permutations

from dugdays.days import check_packing, live_day, put_behind


def live_till_evening(menu, lying, weather):
    """Return the digs of a day, and its evening."""
    digs, behind = live_day(menu, lying, weather)
    return digs, (weather, behind)


def choices_of(menu, evening):
    """Return a list of the packings that can be chosen in an evening."""
    weather, lying = evening
    wishes, back = menu.wishes(weather), menu.back(weather)
    if back == "place":
        return [list(lying)]
    return [put_behind(lying, list(row), back) for row in permutations(wishes)]


def evenings_from(menu, first):
    """Return a dict from each evening that can come to a row for its choices: the days (digs, evening) behind each."""
    evenings = {}
    waiting = [first]
    while waiting:
        evening = waiting.pop()
        if evening not in evenings:
            later = menu.later(evening[0])
            choices = choices_of(menu, evening)
            evenings[evening] = [[live_till_evening(menu, lying, weather) for weather in later] for lying in choices]
            waiting.extend([after for behind in evenings[evening] for digs, after in behind])
    return evenings


def worst_of(behind, least):
    """Return the most that one of the days behind a choice digs, with the least that is kept to after its evening."""
    return max([digs + least[evening] for digs, evening in behind])


def kept_behind(menu, evening, days):
    """Return a list of what can be kept to in so many further days behind each choice of an evening."""
    evenings = evenings_from(menu, evening)
    numbers = [0] * len(evenings[evening])
    least = {at: 0 for at in evenings}
    for _ in range(days):
        rows = {at: [worst_of(behind, least) for behind in evenings[at]] for at in evenings}
        numbers = rows[evening]
        least = {at: min(rows[at]) for at in rows}
    return numbers


def kept_to(menu, packing, days):
    """Return the least number that can be kept to in so many days from a packing."""
    check_packing(menu, packing)
    if days < 1:
        return 0
    digs, evening = live_till_evening(menu, packing, menu.weathers[0])
    return digs + min(kept_behind(menu, evening, days - 1))


def put_back(menu, packing, weather, days):
    """Return a packing to choose in the evening of a day, so that least can be kept to in so many further days."""
    check_packing(menu, packing)
    _, evening = live_till_evening(menu, packing, weather)
    numbers = kept_behind(menu, evening, days)
    return choices_of(menu, evening)[numbers.index(min(numbers))]
