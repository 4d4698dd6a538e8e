"""Whether a new service can replace an old one."""

from allwhotalk.algebra import is_within, parting
from allwhotalk.errors import TalkError
from allwhotalk.guides import build
from allwhotalk.runs import stuck_run


def can_replace(old, new, links):
    """True if every partner that is good for the old service is good for the new one [26]."""
    before, after = _guides(old, new, links)
    return is_within(before, after)


def objection(old, new, links):
    """A partner that is good for the old service and a stuck run of the new one with it; None if there is none."""
    before, after = _guides(old, new, links)
    partner = parting(before, after)
    if partner is None:
        return None
    return partner, stuck_run(new, links, partner)


def _guides(old, new, links):
    """The guide of the old service and that of the new one."""
    if old.inputs != new.inputs or old.outputs != new.outputs:
        raise TalkError("interfaces differ")
    return build(old, links), build(new, links)
