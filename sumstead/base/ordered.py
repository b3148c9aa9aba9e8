"""Orders: what ascends, dicts that do, and values that are equal."""


def are_ascending(values):
    """Whether each value of a list or a tuple is greater than the one ahead."""
    return all([one < other for one, other in zip(values, values[1:])])


def by_keys(table):
    """The dict with ascending keys."""
    return {key: table[key] for key in sorted(table)}


def is_same(one, other):
    """Whether two values of tuples and dicts are equal, and no True of one stands for a 1 of the other."""
    return type(one) is type(other) and _is_equal(one, other)


def _is_equal(one, other):
    if type(one) is tuple:
        return len(one) == len(other) and all([is_same(part, twin) for part, twin in zip(one, other)])
    if type(one) is dict:
        return len(one) == len(other) and all([key in other and is_same(one[key], other[key]) for key in one])
    return one == other


def unlike_keys(one, other):
    """The ascending list of the keys for which two dicts have unlike values, None where one lacks the key."""
    keys = sorted(set(list(one) + list(other)))
    return [key for key in keys if one.get(key, None) != other.get(key, None)]
