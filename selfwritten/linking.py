"""Links between the roads of a store."""


def lay(store, entry, place):
    """Lays a link between two roads of the store; returns whether it was laid."""
    if store.linking is not True or entry not in store or place not in store:
        return False
    if linked(store, entry, place):
        return False
    store.links[(entry, place)] = True
    return True


def linked(store, entry, place):
    """Whether the link is there."""
    return (entry, place) in store.links


def links_of(store):
    """The links, ascending."""
    return tuple(sorted(store.links))


def force(store, entry, place):
    """Lays a link whatever the store holds."""
    store.links[(entry, place)] = True
