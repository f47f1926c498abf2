"""Which things lead to which others: all that is come to, the least WAYS."""


def all_led_to(starts, leads):
    """The set of starts and of all to which these lead, over others or not; leads is a dict of lists."""
    found, waiting = {}, list(starts)
    while waiting:
        own = waiting.pop()
        if own not in found:
            found[own] = True
            waiting.extend(leads.get(own, []))
    return tuple(sorted(found))


def least_ways(start, steps):
    """A dict of the WAYS from start, by where they lead: of those with fewest steps the least. steps, a set,
    are tuples with what they lead from ahead and what they lead to at the end; a WAY is a tuple of steps."""
    leaving = {}
    for step in steps:
        leaving.setdefault(step[0], []).append(step)
    ways, waiting, place = {start: ()}, [start], 0
    # What is come to waits in the order of its WAYS: so the first WAY to a thing is the least one.
    while place < len(waiting):
        own = waiting[place]
        for step in leaving.get(own, []):
            if step[-1] not in ways:
                ways[step[-1]] = ways[own] + (step,)
                waiting.append(step[-1])
        place += 1
    return ways
