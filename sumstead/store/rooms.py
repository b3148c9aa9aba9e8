"""Rooms: strings with texts side by side, and free characters between them."""

_FREE = "_"


def free_spans(room):
    """The longest rows of free characters as pairs (begin, end), ascending."""
    found = []
    begin = 0
    for end in range(len(room) + 1):
        if end == len(room) or room[end] != _FREE:
            if begin < end:
                found.append((begin, end))
            begin = end + 1
    return tuple(found)


def freed(room, span):
    """The room in which the characters of a span are free; free ones at its end are cut off."""
    begin, end = span
    return (room[:begin] + _FREE * (end - begin) + room[end:]).rstrip(_FREE)


def seat_for(room, many):
    """Where so many characters are put: at the first free span that is long enough, or at the end."""
    for begin, end in free_spans(room):
        if end - begin >= many:
            return begin
    return len(room)


def with_text(room, begin, text):
    """The room with a text at an index, where enough characters are free or the room ends."""
    return room[:begin] + text + room[begin + len(text):]


def are_apart(room, spans):
    """Whether no two of the ascending spans overlap, and all other characters are free, none of them the last."""
    at = 0
    for begin, end in spans:
        if begin < at or room[at:begin].strip(_FREE) != "":
            return False
        at = end
    return at == len(room)
