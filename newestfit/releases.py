"""What registry.py and the files behind it look up in REGISTRIES and WISHES.

Here all that is handed in is made of tuples already.
"""

from newestfit.marks import holds


def release_of(registry, name, version):
    """The RELEASE of this name and version; None if there is none."""
    for release in registry:
        if release[0] == name and release[1] == version:
            return release
    return None


def has_part(release, part):
    """Whether release has the part; each one has the part "", itself."""
    return part == "" or any(own[0] == part for own in release[3])


def part_needs(release, part):
    """The NEEDS of the part, for "" of release itself; () if it has no such part."""
    if part == "":
        return release[2]
    for name, needs in release[3]:
        if name == part:
            return needs
    return ()


def parts_with_self(release):
    """The parts of release, "" for itself first."""
    return [""] + [own[0] for own in release[3]]


def all_needs(release):
    """The list of all NEEDS of release and of its parts."""
    return [need for part in parts_with_self(release) for need in part_needs(release, part)]


def needs_that_count(needs, words):
    return tuple([need for need in needs if holds(need[3], words)])


def is_release_open(release, early, part):
    """Whether the VERSION of release is open for the ITEM of its name with this part."""
    if release[5] or not has_part(release, part):
        return False
    return release[1][3] == 0 or release[0] in early


def open_for(registry, early, item):
    """The tuple, ascending, of the VERSIONS open for item."""
    name, part = item
    return tuple([own[1] for own in registry if own[0] == name and is_release_open(own, early, part)])


def open_release(registry, early, item, version):
    """The RELEASE whose VERSION is open for item; None if this one is not open for it."""
    release = release_of(registry, item[0], version)
    if release is None or not is_release_open(release, early, item[1]):
        return None
    return release
