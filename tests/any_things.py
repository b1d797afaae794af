"""Things of any kind, of which is_date and is_rule are asked."""


def nested(core, deep, kind):
    """Put a thing into so many lists or tuples, one in the other."""
    for _ in range(deep):
        core = kind([core])
    return core


def odd_things():
    """Things that are neither dates nor rules."""
    plain = [None, True, False, 0, 1, -1, 2000, 10 ** 30, "", "each", "week", "2000-01-01", (), []]
    tuples = [(thing,) for thing in plain]
    pairs = [(thing, thing) for thing in plain]
    threes = [(thing, thing, thing) for thing in plain]
    lists = [list(thing) for thing in tuples + pairs + threes]
    deep = [nested(core, many, kind) for core in (1, None, (2000, 1, 1), ("each", 1))
            for many in (1, 2, 30) for kind in (list, tuple)]
    mixed = [("each", nested(1, 30, tuple)), (nested("each", 30, list), 1),
             ("week", nested(1, 30, list)), ("week", (nested(1, 29, tuple),)),
             ("year", nested(1, 30, tuple), 1), ("year", 1, nested(1, 30, list)),
             (nested(2000, 30, tuple), 1, 1), (2000, nested(1, 30, list), 1),
             (2000, 1, nested(1, 30, tuple))]
    return plain + tuples + pairs + threes + lists + deep + mixed
