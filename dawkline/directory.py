"""Directories and routes: what a host does with an address, and the way to another domain."""


class Directory:
    """The users and the lists of a domain."""

    def __init__(self, domain, users, lists):
        self.domain = domain
        self.users = users
        self.lists = lists

    def lookup(self, address):
        """Return what an address is for this directory, a tuple that begins with a word."""
        local, domain = address
        if domain != self.domain:
            return ("remote",)
        if local in self.users:
            return ("box", local)
        for name, owner, members in self.lists:
            if name == local:
                return ("list", owner, members)
        return ("unknown",)


def route(routes, domain):
    """Return the hosts of the longest suffix that matches a domain, or an empty tuple."""
    longest = -1
    found = ()
    for suffix, hosts in routes:
        # Suffixes of one length that match are equal, and of those the first pair counts.
        if len(suffix) > longest and suffix_matches(suffix, domain):
            longest = len(suffix)
            found = hosts
    return found


def suffix_matches(suffix, domain):
    """Return True if a suffix matches a domain, otherwise False."""
    return suffix in ("", domain) or domain.endswith(f".{suffix}")
