"""Combined logs: when a log is above another one, and the logs next above and below several ones."""

from backlinks.links import require_one_size


def is_above(links, other):
    """Returns whether the first log is above the second one."""
    require_one_size([links, other])
    return all([link >= below for link, below in zip(links, other)])


def common_up(*logs):
    """Returns the least log above all of these."""
    require_one_size(logs)
    return [max(choices) for choices in zip(*logs)]


def common_down(*logs):
    """Returns the greatest log below all of these."""
    require_one_size(logs)
    least = [min(choices) for choices in zip(*logs)]
    links = [0]
    for entry in range(1, len(least)):
        # What lowers a link is an entry before this one that passes over its target. All links before this one are
        # final, so the chain of links down from the entry just before shows what nothing passes over.
        target = entry - 1
        while target > least[entry]:
            target = links[target]
        links.append(target)
    return links
