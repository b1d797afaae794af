"""Plans: on which day what is done."""

from dodays.opening import first_up, hindered_by, is_open
from dodays.things import DONE, DUE, NUMBER, START, not_done, with_worth


def next_day(things, day):
    """Tell the first day, from this one on, when something can be done, or None."""
    starts = [thing[START] for thing in things
              if thing[DONE] is None and hindered_by(things, thing[NUMBER]) == ()]
    days = [day if start is None else max(day, start) for start in starts]
    return min(days, default=None)


def plan(things, day, many):
    """Tell pairs of a day and a number by which all is done, so many things a day."""
    pairs = []
    left = things
    at = next_day(left, day)
    while at is not None:
        number = first_up(left, at, None)[0]
        pairs.append((at, number))
        left = with_worth(left, number, DONE, at)
        many_today = len([one for one, other in pairs if one == at])
        at = next_day(left, at if many_today < many else at + 1)
    return tuple(pairs)


def late(things, pairs):
    """Tell the numbers of all that pairs of a day and a number do behind their due, rising."""
    dues = {thing[NUMBER]: thing[DUE] for thing in things if thing[DUE] is not None}
    return tuple(sorted({number for day, number in pairs if number in dues and day > dues[number]}))


def can_follow(things, pairs):
    """Tell whether each pair's thing can be done on its day, those ahead of it being done."""
    left = things
    for day, number in pairs:
        if not is_open(left, number, day):
            return False
        left = with_worth(left, number, DONE, day)
    return True


def is_plan(things, day, many, pairs):
    """Tell whether pairs of a day and a number do all, each when it can be, so many a day at the most."""
    days = [at for at, number in pairs]
    if days != sorted(days) or any(at < day or days.count(at) > many for at in days):
        return False
    if sorted([number for at, number in pairs]) != list(not_done(things)):
        return False
    return can_follow(things, pairs)


def can_be_in_time(things, day):
    """Tell whether all can be done by their dues, one a day from this day on."""
    # Of one a day, the least due_at of what can be done is always right to do:
    # if any order is in time, the plan is.
    return late(things, plan(things, day, 1)) == ()
