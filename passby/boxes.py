"""Boxes: a diary is done on their contents."""

from passby.errors import NoBox


def boxes_of(number):
    return [box for box in range(number.bit_length()) if ((number >> box) & 1) == 1]


def saying(deed, contents):
    return deed[0] + sum([(box + 1) * contents[box] for box in boxes_of(deed[1])])


def done(diary, contents):
    said = []
    left = list(contents)
    for deed in diary:
        if (deed[1] | deed[2]).bit_length() > len(left):
            raise NoBox("a deed looks at or changes a box for which there is no content")
        number = saying(deed, left)
        said.append(number)
        for box in boxes_of(deed[2]):
            left[box] = number + box
    return (said, left)
