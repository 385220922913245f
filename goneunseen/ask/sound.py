"""What says that an object is made from what was checked before."""


class Sound:
    """Stands for an argument to say that all of them come from what was checked before, so that none needs a check."""

    def __init__(self, worth):
        self.worth = worth
