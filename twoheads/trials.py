"""Trials: blocks that leave no trace if an error ends them."""


class Trial:
    """Gives its owner the state back that it had, if the block is left by an error.

    The owner keeps all that can change in one attribute `state`, whose value is never
    changed but only replaced: so the old value is all that has to be kept.
    """

    def __init__(self, owner):
        self.owner = owner
        self.kept = owner.state

    def __enter__(self):
        self.kept = self.owner.state
        return self.owner

    def __exit__(self, kind, value, trace):
        owner = self.owner
        if kind is not None:
            owner.state = self.kept
