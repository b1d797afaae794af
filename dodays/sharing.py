"""Lists that two hands changed, put together."""

from dodays.things import DONE, DUE, MANY_FIELDS, MOST_WANTS, NUMBER, PARENT, RULE, START, WANTS
from dodays.things import leaning_on_themselves, wanting_what_is_there, with_worth


def by_number(things):
    """Tell the things of a list by their numbers."""
    return {thing[NUMBER]: thing for thing in things}


def of_two_changes(field, one, other):
    """Tell which worth a field gets that both changed, and not alike."""
    if one is None or other is None:
        there = other if one is None else one
        return there if field in (DUE, RULE, DONE) else None
    if field in (START, DUE, DONE):
        return min(one, other)
    if field == WANTS:
        return tuple(sorted(set(one + other)))
    if field == RULE:
        return max(one, other, key=str)
    return max(one, other)


def merged_worth(field, was, one, other):
    """Tell which worth a field gets, by what it was and what both have."""
    if one == other or other == was:
        return one
    if one == was:
        return other
    return of_two_changes(field, one, other)


def merged_thing(was, one, other):
    """Tell the thing that comes of what it was, and of what both have, None where it was not there."""
    if one is None or other is None:
        return other if one is None else one
    before = (None,) * MANY_FIELDS if was is None else was
    return tuple(merged_worth(field, before[field], one[field], other[field]) for field in range(MANY_FIELDS))


def numbers_left(base, one, other):
    """Tell the numbers that stay, rising: of base's those that both have, of others all."""
    both = [number for number in one if number in other]
    new = [number for number in list(one) + list(other) if number not in base]
    return sorted(set(both + new))


def put_in_order(things):
    """Tell the things without wants, parents and rules that can not stand, whatever leans on what."""
    told = wanting_what_is_there(things)
    there = by_number(told)
    for number in there:
        thing = there[number]
        told = with_worth(told, number, WANTS, thing[WANTS][:MOST_WANTS])
        if thing[PARENT] not in there:
            told = with_worth(told, number, PARENT, None)
        if thing[DUE] is None:
            told = with_worth(told, number, RULE, None)
    return told


def with_rings_cut(things):
    """Tell the things, each that leans on itself without wants and parent."""
    told = things
    for number in leaning_on_themselves(things):
        told = with_worth(with_worth(told, number, WANTS, ()), number, PARENT, None)
    return told


def merged(base, one, other):
    """Tell the list that comes of a base and of what two hands made of it."""
    of_base = by_number(base)
    of_one = by_number(one)
    of_other = by_number(other)
    things = tuple(
        merged_thing(of_base.get(number), of_one.get(number), of_other.get(number))
        for number in numbers_left(of_base, of_one, of_other)
    )
    return with_rings_cut(put_in_order(things))
