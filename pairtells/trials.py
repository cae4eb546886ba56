"""Blocks that leave a desk as it was when they were entered."""


class Trial:
    """A block over a desk; what was done, or taken back, within it counts as never done."""

    def __init__(self, desk):
        self._desk = desk
        self._held = None

    def __enter__(self):
        self._held = self._desk.now
        return self._desk

    def __exit__(self, kind, value, trace):
        desk = self._desk
        desk.now = self._held
