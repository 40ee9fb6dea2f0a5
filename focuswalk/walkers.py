"""Somebody who walks a sheet by keys [24]."""

from focuswalk.changes import stand_behind
from focuswalk.deeds import done
from focuswalk.sheets import inner_of
from focuswalk.views import is_open
from focuswalk.ways import goes, refuse_no_key


class Walker:
    """Stands on an open part of a sheet, or nowhere, and goes by keys and deeds."""

    def __init__(self, sheet):
        self.now = sheet
        self.here = None
        # All parts on which it came to stand, in order.
        self.came = []
        # By a part's name the one from which it last went out to it.
        self.kept = {}
        self.come_to(stand_behind(sheet, sheet, None))

    def stand(self):
        """Tell the part on which it stands, None for nowhere."""
        return self.here

    def sheet(self):
        """Tell its sheet."""
        return self.now

    def press(self, key):
        """Go where a key leads, and tell where it stands then."""
        refuse_no_key(key)
        to = None if self.here is None else self.led_by(key)
        if to is not None:
            if key == "out":
                self.kept[to] = self.here
            self.come_to(to)
        return self.here

    def do(self, deed):
        """Do a deed to its sheet, and tell where it stands then."""
        changed = done(self.now, deed)
        to = stand_behind(self.now, changed, self.here)
        self.now = changed
        self.come_to(to)
        return self.here

    def told(self):
        """Tell all parts on which it came to stand, in order."""
        return list(self.came)

    def led_by(self, key):
        """Tell where a key leads from where it stands: into, if it can, to the part last left by out."""
        last = self.kept.get(self.here)
        if key == "into" and last in inner_of(self.now, self.here) and is_open(self.now, last):
            return last
        return goes(self.now, self.here, key)

    def come_to(self, name):
        """Stand on a part, or nowhere, and keep it where it stood elsewhere just ahead."""
        if name is not None and name != self.here:
            self.came.append(name)
        self.here = name
