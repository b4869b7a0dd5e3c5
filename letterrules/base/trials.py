"""Blocks in which something can go on, and behind which it is as before."""


class Trial:
    """Such a block, for an object that keeps all that changes in its attribute `_state`."""

    def __init__(self, whole):
        self._whole = whole
        self._kept = None

    def __enter__(self):
        self._kept = self._whole._state
        return self._whole

    def __exit__(self, kind, value, trace):
        self._whole._state = self._kept
