"""The faults of an allocator: where its words are not as they should be."""


def head_faults(memory, rules):
    """The addresses of heads that are wrong."""
    blocks, end = memory.walk()
    found = []
    was_used = True
    for address, size, is_used in blocks:
        is_ahead_used = memory.head_at(address)[2]
        if not rules.is_size(size) or is_ahead_used != was_used or not (is_used or was_used):
            found.append(address)
        was_used = is_used
    if memory.size > 0 and (end != memory.fence_at() or memory.head_at(end) != (0, True, was_used)):
        found.append(end)
    return [("heads", address) for address in found]


def foot_faults(memory):
    """The addresses of free blocks without their feet."""
    blocks, _ = memory.walk()
    return [("foot", address) for address, size, is_used in blocks
            if not is_used and memory.words.get(address + size - 1) != ("foot", size)]


def ring_faults(memory):
    """Whether the ring is not just the free blocks, each once."""
    blocks, _ = memory.walk()
    free = {address: True for address, _, is_used in blocks if not is_used}
    reached = {}
    at = "bin"
    while at not in reached:
        reached[at] = True
        onward = memory.link_word(at, "next")
        if onward is None or (onward != "bin" and onward not in free) or memory.link_word(onward, "prev") != at:
            return [("ring",)]
        at = onward
    return [] if at == "bin" and len(reached) == len(free) + 1 else [("ring",)]


def slab_faults(memory, pages):
    """The addresses of the blocks of pages whose map words are gone."""
    found = []
    for page in pages:
        start = page.first_map_word()
        if [at for at in range(page.many_words()) if memory.words.get(start + at) != ("map", page.number, at)]:
            found.append(page.address)
    return [("slab", address) for address in sorted(found)]


def data_faults(memory, held):
    """The names whose words are not all there: held has triples of a name, the words asked for, and the room."""
    found = []
    for name, many, start, room in held:
        if start is None or room < many:
            found.append(name)
        elif [at for at in range(many) if memory.words.get(start + at) != ("user", name, at)]:
            found.append(name)
    return [("data", name) for name in found]


def meeting_faults(held):
    """The pairs of names whose rooms have a word in common."""
    rooms = [(name, start, start + room) for name, _, start, room in held if start is not None]
    return [("meet", one[0], other[0]) for at, one in enumerate(rooms) for other in rooms[at + 1:]
            if one[1] < other[2] and other[1] < one[2]]


def lost_faults(memory, pages, owned, starts):
    """The addresses of used blocks and lent places that nobody has; dicts tell what is owned, where pieces begin."""
    blocks, _ = memory.walk()
    paged = {page.address: True for page in pages}
    found = [address for address, _, is_used in blocks if is_used and address not in owned and address not in paged]
    for page in pages:
        found = found + [address for address in page.lent_addresses() if address not in starts]
    return [("lost", address) for address in sorted(found)]
