"""What the yard refuses, one class for each refusal."""


# Stands under ValueError so that a caller who knows nothing of yards can still take any refusal.
class YardError(ValueError):
    pass


class NoTrack(YardError):
    pass


class NoneWaiting(YardError):
    pass


class TrackEmpty(YardError):
    pass


class NoPlan(YardError):
    pass
