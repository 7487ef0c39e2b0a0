"""Settling: a network made fair, until it comes to rest."""


def settle(world, rounds):
    """Settle a world in at most so many rounds, and return the number of rounds performed."""
    for done in range(1, rounds + 1):
        if not perform_round(world):
            return done
    return rounds


def at_rest(world):
    """Return True if a world is at rest, otherwise False."""
    return all([is_at_rest(host) for host in world.hosts.values()])


def is_at_rest(host):
    """Return True if a host is up and has nothing left to do, otherwise False."""
    if not host.up:
        return False
    return host.state.queue == {} and host.state.owed == {} and host.state.taken == {}


def perform_round(world):
    """Perform one round of settling, and return True if another one can change anything."""
    start_all(world)
    before = events_so_far(world)
    finish_connections(world)
    work_all(world)
    talk_all(world)
    work_all(world)
    if at_rest(world):
        return False
    if events_so_far(world) > before:
        return True
    return wait(world)


def start_all(world):
    """Start every host that is down, losing nothing, and end the limits of power."""
    for domain in sorted(world.hosts):
        host = world.hosts[domain]
        if not host.up:
            world.move(("crash", domain, host.disk.pending(0), host.disk.pending(1)))
            world.move(("start", domain))
        host.disk.limit(None)


def finish_connections(world):
    """Cut one connection after the other, and let its lines arrive at the server."""
    for number in range(len(world.connections)):
        world.move(("cut", number))
        # Behind the cut no line is added to those on their way to the server.
        for _ in list(world.connections[number].to_server):
            world.move(("to_server", number))


def work_all(world):
    """Let every host perform all its local work."""
    for domain in sorted(world.hosts):
        working = True
        while working:
            working = world.move(("work", domain))


def talk_all(world):
    """Let every host talk to each peer that it wants to talk to."""
    for domain in sorted(world.hosts):
        for peer in world.hosts[domain].peers(world.now, world.busy_tags(domain, None)):
            if world.move(("connect", domain, peer)):
                finish_dialogue(world, len(world.connections) - 1)


def finish_dialogue(world, number):
    """Let the lines of a connection arrive in the order in which they were sent."""
    # The two sides take turns: no line is sent while others are on their way to the other side.
    arriving = True
    while arriving and world.connections[number].sender is not None:
        arriving = world.move(("to_client", number)) or world.move(("to_server", number))


def wait(world):
    """Let the time increase to the next one at which an item changes; return False if there is none."""
    later = [time for time in times_of_items(world) if time > world.now]
    if later == []:
        return False
    return world.move(("tick", min(later) - world.now))


def times_of_items(world):
    """Return the due time and the expiry of every item in a queue."""
    times = []
    for host in world.hosts.values():
        for item in host.state.queue.values():
            times.append(item.due)
            times.append(item.born + host.limits.lifetime)
    return times


def events_so_far(world):
    """Return the number of the events of all hosts."""
    return sum([host.state.count for host in world.hosts.values()])
