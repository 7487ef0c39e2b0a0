"""Disks: two files whose last steps a crash may undo, and power that may end."""

from dawkline.errors import PowerCut

# A pending step is the byte that it appends, or this number.
CLEARING = -1


class Disk:
    """Two files, numbered 0 and 1, and the power that their steps need."""

    def __init__(self):
        self._durable = [[], []]
        self._steps = [[], []]
        self._power = None

    def append(self, file, data):
        """Append the bytes of a list to a file, each by one pending step."""
        self._perform(file, data)

    def clear(self, file):
        """Clear a file by one pending step."""
        self._perform(file, [CLEARING])

    def sync(self, file):
        """Make the content of a file durable."""
        if self._spend(1) < 1:
            raise PowerCut("the power ended before the file was synced")
        self._make_durable(file, len(self._steps[file]))

    def content(self, file):
        """Return the content of a file after its pending steps, a new byte list."""
        return content_after(self._durable[file], self._steps[file])

    def pending(self, file):
        """Return the number of pending steps of a file."""
        return len(self._steps[file])

    def limit(self, steps):
        """Limit the power to so many further steps, or end the limit if that is None."""
        self._power = steps

    def crash(self, a, b):
        """Keep the first a and b pending steps of the files 0 and 1, and end the limit of power."""
        self._make_durable(0, a)
        self._make_durable(1, b)
        self._power = None

    def _perform(self, file, steps):
        """Add pending steps to a file for as long as the power lasts."""
        lasting = self._spend(len(steps))
        self._steps[file].extend(steps[:lasting])
        if lasting < len(steps):
            raise PowerCut("the power ended before all steps were performed")

    def _spend(self, steps):
        """Spend the power of up to so many steps, and return for how many of them it lasts."""
        if self._power is None:
            return steps
        # A limit below 0 leaves no power, too.
        lasting = max(0, min(steps, self._power))
        self._power = self._power - lasting
        return lasting

    def _make_durable(self, file, many):
        """Let the first pending steps of a file take effect, and drop the others."""
        self._durable[file] = content_after(self._durable[file], self._steps[file][:max(0, many)])
        self._steps[file] = []


def content_after(content, steps):
    """Return a content after these steps, a new byte list."""
    changed = list(content)
    for step in steps:
        if step == CLEARING:
            changed.clear()
        else:
            changed.append(step)
    return changed
