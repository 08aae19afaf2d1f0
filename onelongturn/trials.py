"""Trials: blocks behind which a board or a yard is as it was when they began."""


class Trial:
    """A block of an owner that keeps what it is in `now` and what it was ahead of each change in the list `past`.

    What these two hold never changes, so that it is enough to keep both.
    """

    def __init__(self, owner):
        self.owner = owner
        self.now = None
        self.past = []

    def __enter__(self):
        self.now = self.owner.now
        self.past = list(self.owner.past)
        return self.owner

    def __exit__(self, kind, value, trace):
        owner = self.owner
        owner.now = self.now
        owner.past = self.past
