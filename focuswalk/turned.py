"""Sheets mirrored, turned over, shifted and grown [20]."""


def mirrored(sheet):
    """Tell the sheet with left and right exchanged."""
    return with_boxes(sheet, mirrored_box)


def turned_over(sheet):
    """Tell the sheet with left and top, and wide and high, exchanged."""
    return with_boxes(sheet, turned_box)


def shifted(sheet, right, down):
    """Tell the sheet with each box put so far to the right and so far down."""
    return with_boxes(sheet, lambda box: (box[0] + right, box[1] + down, box[2], box[3]))


def grown(sheet, times):
    """Tell the sheet with all numbers of each box so many times as great."""
    return with_boxes(sheet, lambda box: tuple(number * times for number in box))


def with_boxes(parts, turn):
    """Tell these parts, and all within them, each with what turn makes of its box."""
    return tuple((name, turn(box), word, rank, head, with_boxes(inner, turn))
                 for name, box, word, rank, head, inner in parts)


def mirrored_box(box):
    """Tell the box whose left is this one's right edge with the other sign."""
    left, top, wide, high = box
    return -(left + wide), top, wide, high


def turned_box(box):
    """Tell the box that has this one's columns as its rows."""
    left, top, wide, high = box
    return top, left, high, wide
