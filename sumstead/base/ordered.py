"""Orders: what ascends, and dicts that do."""


def are_ascending(values):
    """Whether each value of a list or a tuple is greater than the one ahead."""
    return all([one < other for one, other in zip(values, values[1:])])


def by_keys(table):
    """The dict with ascending keys."""
    return {key: table[key] for key in sorted(table)}
