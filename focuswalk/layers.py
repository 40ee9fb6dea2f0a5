"""What is reached by ways, layer by layer [15, 17]."""

from focuswalk.boxes import SIDES
from focuswalk.sheets import level_of
from focuswalk.views import is_open, open_parts, refuse_not_open
from focuswalk.ways import WAYS, goes


def layers(sheet, name):
    """Tell the layers from an open part: it, what one way leads to, what two lead to and so on."""
    refuse_not_open(sheet, name)
    return layers_by(steps_of(sheet, open_parts(sheet), WAYS), name)


def unled(sheet):
    """Tell the open parts to which no way leads, by the sheet's order."""
    names = open_parts(sheet)
    led = led_from(steps_of(sheet, names, WAYS), names)
    return [name for name in names if name not in led]


def is_linked(sheet, name):
    """Tell whether each open part of a level is reached from each other one by the four alone."""
    names = [other for other in level_of(sheet, name) if is_open(sheet, other)]
    steps = steps_of(sheet, names, SIDES)
    return all(len(reached(steps, other)) == len(names) for other in names)


def steps_of(sheet, names, ways):
    """Tell a dict of these open parts, in their order: of each the pairs (way, to) of these ways."""
    return {name: steps_from(sheet, name, ways) for name in names}


def steps_from(sheet, name, ways):
    """Tell the pairs (way, to) of those of the ways that lead from an open part to a part."""
    pairs = [(way, goes(sheet, name, way)) for way in ways]
    return [(way, to) for way, to in pairs if to is not None]


def led_from(steps, names):
    """Tell the parts to which one step leads from one of these."""
    return [to for name in names for way, to in steps[name]]


def layers_by(steps, name):
    """Tell the layers that the steps make from a part."""
    rows = []
    told = []
    newest = [name]
    while newest:
        rows.append(newest)
        told = told + newest
        led = led_from(steps, newest)
        newest = [other for other in steps if other in led and other not in told]
    return rows


def reached(steps, name):
    """Tell the parts to which rows of steps lead from a part, it too, in the order of the steps."""
    told = [other for row in layers_by(steps, name) for other in row]
    return [other for other in steps if other in told]
