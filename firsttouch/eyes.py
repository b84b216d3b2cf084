"""Eyes: which answers are alike."""

from firsttouch.errors import BadEye

# Each sees as unlike whatever one behind it sees as unlike.
EYES = ("all", "bag", "values")


def require_eye(eye):
    if eye not in EYES:
        raise BadEye(eye)


def view(eye, answer):
    """What an eye sees of an answer: answers are alike where this is equal."""
    events, end = answer
    if eye == "all":
        return answer
    if eye == "bag":
        # Events are integers and tuples, which have no order among one another; their texts differ as they do.
        return (tuple(sorted(events, key=str)), end)
    return end


def alike(eye, answer, other):
    return view(eye, answer) == view(eye, other)
