"""Checks of numbers and texts that callers pass (point 1)."""

from cacheheld.errors import BadNumber, NotText


def check_number(value, lowest, highest):
    """Raise BadNumber if a value is no integer from a lowest to a highest one."""
    # True and False are equal to 1 and 0, but are not integers here.
    if isinstance(value, bool) or not isinstance(value, int) or not lowest <= value <= highest:
        raise BadNumber(f"no integer from {lowest} to {highest}")


def check_text(value):
    """Raise NotText if a value is no string."""
    if not isinstance(value, str):
        raise NotText("a string is needed")
