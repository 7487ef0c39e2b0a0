"""Records: how a value is written as a byte list, and read from one."""

from dawkline.errors import Incomplete, InvalidRecord

# The first byte of a record tells which kind of value it is.
NONE = 0
FALSE = 1
TRUE = 2
NATURAL = 3
NEGATIVE = 4
STRING = 5
TUPLE = 6

DEEPEST = 20
BARRED_CODE = 37
FIRST_CODE = 32
# The character of code n stands at n - 32. No record has the code 37: a blank holds its place.
SIGNS = " !\"#$ &'()*+,-./0123456789:;<=>?@ABCDEFGHIJKLMNOPQRSTUVWXYZ[\\]^_`abcdefghijklmnopqrstuvwxyz{|}~"


def pack(value):
    """Return the record of a value, a byte list."""
    if value is None:
        return [NONE]
    if isinstance(value, bool):
        return [TRUE if value else FALSE]
    if isinstance(value, int):
        return pack_integer(value)
    if isinstance(value, str):
        return [STRING] + pack_count(len(value)) + [ord(sign) for sign in value]
    data = [TUPLE] + pack_count(len(value))
    for item in value:
        data.extend(pack(item))
    return data


def pack_integer(number):
    """Return the record of an integer."""
    if number < 0:
        return [NEGATIVE] + pack_count(-number - 1)
    return [NATURAL] + pack_count(number)


def pack_count(count):
    """Return the groups of seven bits of a count, the lowest group first."""
    groups = []
    while count > 127:
        groups.append(128 + (count & 127))
        count = count >> 7
    groups.append(count)
    return groups


def unpack(data, at=0):
    """Return (value, place): the value of the record at an index, and the index behind it."""
    return unpack_inside(data, at, 0)


def unpack_inside(data, at, depth):
    """Return (value, place) of the record at an index that is inside so many tuples."""
    kind = byte_at(data, at)
    if kind > TUPLE or (kind == TUPLE and depth == DEEPEST):
        raise InvalidRecord(at)
    if kind == NONE:
        return (None, at + 1)
    if kind in (FALSE, TRUE):
        return (kind == TRUE, at + 1)
    count, place = unpack_count(data, at + 1)
    if kind == NATURAL:
        return (count, place)
    if kind == NEGATIVE:
        return (-count - 1, place)
    if kind == STRING:
        return unpack_string(data, place, count)
    return unpack_tuple(data, place, count, depth + 1)


def unpack_count(data, at):
    """Return (count, place): the count at an index, and the index behind it."""
    count = 0
    weight = 1
    place = at
    while byte_at(data, place) > 127:
        count = count + (data[place] & 127) * weight
        weight = weight * 128
        place = place + 1
    if data[place] == 0 and place > at:
        raise InvalidRecord(place)
    return (count + data[place] * weight, place + 1)


def unpack_string(data, at, count):
    """Return (value, place) of a string whose characters begin at an index."""
    codes = data[at:at + count]
    # A wrong byte stands to the left of the end of the bytes, so it is the first fault.
    for place, code in enumerate(codes, start=at):
        if not is_code(code):
            raise InvalidRecord(place)
    if len(codes) < count:
        raise Incomplete(len(data))
    return ("".join([SIGNS[code - FIRST_CODE] for code in codes]), at + count)


def unpack_tuple(data, at, count, depth):
    """Return (value, place) of a tuple whose items begin at an index, inside so many tuples."""
    items = []
    place = at
    while len(items) < count:
        item, place = unpack_inside(data, place, depth)
        items.append(item)
    return (tuple(items), place)


def is_code(byte):
    """Return True if a byte is the code of a character of a string, otherwise False."""
    return 0 <= byte - FIRST_CODE < len(SIGNS) and byte != BARRED_CODE


def byte_at(data, at):
    """Return the byte at an index, or raise Incomplete if the bytes end before it."""
    if at >= len(data):
        raise Incomplete(len(data))
    return data[at]
