"""The judge: which hosts have which items."""


def custody(world):
    """Return the list of the tuples (host, tag, doubt) of all items, ascending by tag and then by host."""
    found = []
    for domain, host in world.hosts.items():
        if host.up:
            for tag, item in host.state.queue.items():
                found.append((domain, tag, item.doubt))
    # The doubt may be None, which cannot be compared with a string.
    return sorted(found, key=lambda row: (row[1], row[0]))


def holders(world):
    """Return a dict from (host, serial) to the ascending tags of the items with this host and serial."""
    found = {}
    for _, tag, _ in custody(world):
        origin = (tag[0], tag[1])
        found[origin] = found.get(origin, []) + [tag]
    return found
