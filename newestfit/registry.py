"""REGISTRIES: their RELEASES, what is open in them, and their FAULTS."""

from newestfit.errors import NoName, NoRelease, Unfit
from newestfit.marks import is_mark, is_words
from newestfit.ranges import in_range, is_range
from newestfit.releases import all_needs, has_part, open_for, part_needs, parts_with_self, release_of
from newestfit.shapes import as_set, in_tuples, is_ascending, is_number, is_tuple_of
from newestfit.versions import is_name, is_version


def is_need(thing):
    if not is_tuple_of(thing, 4):
        return False
    return is_name(thing[0]) and is_range(thing[1]) and is_words(thing[2]) and is_mark(thing[3])


def _are_needs(thing):
    return isinstance(thing, tuple) and all(is_need(need) for need in thing)


def _are_parts(thing):
    if not isinstance(thing, tuple) or not all(is_tuple_of(part, 2) for part in thing):
        return False
    return is_words(tuple([part[0] for part in thing])) and all(_are_needs(part[1]) for part in thing)


def _is_clash(thing):
    return is_tuple_of(thing, 2) and is_name(thing[0]) and is_range(thing[1])


def is_release(thing):
    if not is_tuple_of(thing, 6):
        return False
    name, version, needs, parts, clashes, pulled = thing
    if not is_name(name) or not is_version(version) or not isinstance(pulled, bool):
        return False
    if not _are_needs(needs) or not _are_parts(parts) or not isinstance(clashes, tuple):
        return False
    return all(_is_clash(clash) for clash in clashes)


def is_registry(thing):
    if not isinstance(thing, tuple) or not all(is_release(release) for release in thing):
        return False
    return is_ascending([_place_of(release) for release in thing])


def is_wish(thing):
    return is_tuple_of(thing, 3) and _are_needs(thing[0]) and is_words(thing[1]) and is_words(thing[2])


def _place_of(release):
    """The pair (name, version) by which a REGISTRY is put in order."""
    return (release[0], release[1])


def _in_order(releases):
    return tuple(sorted(releases, key=_place_of))


def names_in(registry):
    return as_set([release[0] for release in registry])


def _releases_named(registry, name):
    found = [release for release in registry if release[0] == name]
    if not found:
        raise NoName(name)
    return found


def versions_of(registry, name):
    return as_set([release[1] for release in _releases_named(in_tuples(registry), name)])


def parts_of(registry, name):
    return as_set([part[0] for release in _releases_named(registry, name) for part in release[3]])


def release_at(registry, name, version):
    version = in_tuples(version)
    release = release_of(_releases_named(in_tuples(registry), name), name, version)
    if release is None:
        raise NoRelease(version)
    return release


def publish(registry, release):
    registry, release = in_tuples(registry), in_tuples(release)
    if release_of(registry, release[0], release[1]) is not None:
        raise Unfit()
    return _in_order(registry + (release,))


def _with_pulled(registry, name, version, pulled):
    """The REGISTRY in which this RELEASE is pulled, or is not."""
    release = release_at(registry, name, version)
    return publish(take_out(registry, name, version), release[:5] + (pulled,))


def pull(registry, name, version):
    return _with_pulled(registry, name, version, True)


def put_back(registry, name, version):
    return _with_pulled(registry, name, version, False)


def take_out(registry, name, version):
    place = _place_of(release_at(registry, name, version))
    return tuple([release for release in in_tuples(registry) if _place_of(release) != place])


def put_together(one, other):
    one, other = in_tuples(one), in_tuples(other)
    added = []
    for release in other:
        same = release_of(one, release[0], release[1])
        if same is None:
            added.append(release)
        elif same != release:
            raise Unfit()
    return _in_order(one + tuple(added))


def differing(one, other):
    one, other = in_tuples(one), in_tuples(other)
    unlike = [release for release in one if release not in other]
    return as_set([_place_of(release) for release in unlike + [own for own in other if own not in one]])


def is_open(registry, early, item, version):
    return in_tuples(version) in open_versions(registry, early, item)


def open_versions(registry, early, item):
    return open_for(in_tuples(registry), early, item)


def speaking_of(registry, name):
    found = []
    for release in in_tuples(registry):
        spoken = [need[0] for need in all_needs(release)] + [clash[0] for clash in release[4]]
        if name in spoken:
            found.append(_place_of(release))
    return tuple(found)


def _need_fault(registry, need):
    """The kind of the FAULT that is told of this NEED; None if there is none."""
    name, span, parts, _ = need
    named = [release for release in registry if release[0] == name]
    if not named:
        return "name"
    held = [release for release in named if in_range(span, release[1])]
    if not held:
        return "range"
    if not any(_has_parts(release, parts) for release in held):
        return "parts"
    return None


def _has_parts(release, parts):
    return all(has_part(release, part) for part in parts)


def _faults_of(registry, release):
    """The list of the FAULTS that are told of release and of its parts."""
    name, version = _place_of(release)
    found = []
    for part in parts_with_self(release):
        for k, need in enumerate(part_needs(release, part)):
            kind = _need_fault(registry, need)
            if kind is not None:
                found.append((kind, name, version, part, k))
    for k, (other, span) in enumerate(release[4]):
        if other == name and in_range(span, version):
            found.append(("itself", name, version, "", k))
    return found


def registry_faults(registry):
    registry = in_tuples(registry)
    return as_set([fault for release in registry for fault in _faults_of(registry, release)])


def is_registry_fault(registry, thing):
    # True and 1 compare as equal, so the numbers in thing are looked at first.
    if not is_tuple_of(thing, 5) or not is_version(thing[2]) or not is_number(thing[4]):
        return False
    return thing in registry_faults(registry)
