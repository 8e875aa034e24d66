"""What each one sees: the SIGHT of a TENANT or of the ADMINS, and the SHAPE of a STORE."""


def sight_of(log, name):
    """What a TENANT, or None, the ADMINS, was told in a LOG, in order, each EVENT without its name."""
    return tuple([event[1:] for step, events in log for event in events if event[0] == name])


def shape_of(store):
    """The SHAPE of a STORE: its tables without any worth."""
    return tuple([(table, after, len(rows), indexes) for table, after, rows, indexes in store])
