"""The levy that makes openings beyond the limit no cheaper than those at the limit, as far as one number can."""


def levy_of(limit, costs):
    """The levy for this limit, where costs is a dict from openings, within and beyond the limit, to what they cost."""
    if limit is None:
        return 0
    leasts = least_by_many(costs)
    # On a line each house more saves no more than the one before it, so the first one beyond the limit saves most.
    saved = [(leasts[limit] - leasts[many]) // (many - limit) for many in leasts if many > limit]
    return max([0] + saved)


def least_by_many(costs):
    """A dict from how many houses openings have to the least that one with so many costs."""
    leasts = {}
    for opening in costs:
        many = len(opening)
        leasts[many] = min(costs[opening], leasts.get(many, costs[opening]))
    return leasts
