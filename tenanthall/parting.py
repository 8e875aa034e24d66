"""PARTED: what of STEPS is left for one TENANT, where all others are left out."""

# Of all these the first thing behind the word is the TENANT.
NAMING = ("open", "move", "break", "save", "restore", "export", "import", "correct", "job")


def parted_steps(steps, name):
    """STEPS PARTED for a TENANT."""
    return tuple([parted_step(step, name) for step in steps if not names_another(step, name)])


def names_another(step, name):
    """Whether a STEP names a TENANT, but not this one."""
    return step[0] in NAMING and step[1] != name


def parted_step(step, name):
    """What is left of a STEP that names no other TENANT but in its SLICES, or in its STEPS."""
    if step[0] == "tick":
        return ("tick", tuple([part for part in step[1] if part[0] == name]))
    if step[0] == "all":
        return ("all", parted_steps(step[1], name))
    return step
