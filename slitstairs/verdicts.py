"""Verdicts on strips: whether they follow, and whether they only open."""

from slitstairs.errors import BadVerdict
from slitstairs.shapes import shape_of
from slitstairs.spans import span_of

VERDICTS = ("follows", "stuck", "opens", "sways", "parted")


def check_verdict(verdict):
    """Raise BadVerdict if `verdict` is none."""
    if not isinstance(verdict, str) or verdict not in VERDICTS:
        raise BadVerdict(verdict)


def asks_following(verdict):
    """Tell whether a verdict hangs on whether a strip follows."""
    return verdict in ("follows", "stuck", "parted")


def asks_opening(verdict):
    """Tell whether a verdict hangs on whether a strip only opens."""
    return verdict in ("opens", "sways", "parted")


def verdict_by(verdict, does_follow, does_open):
    """Tell whether a strip has a verdict, from what the verdict hangs on."""
    if verdict == "follows":
        return does_follow
    if verdict == "stuck":
        return not does_follow
    if verdict == "opens":
        return does_open
    if verdict == "sways":
        return not does_open
    return does_open and not does_follow


def has_verdict(strip, verdict):
    """Tell whether a strip has a verdict."""
    check_verdict(verdict)
    return verdict_by(verdict, shape_of(strip).follows, span_of(strip).opens)
