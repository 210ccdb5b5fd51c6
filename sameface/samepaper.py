"""The paper of two makings that is laid."""

from sameface.related import together_by


def same_paper(face, one, other):
    """("same", the least relation), or ("apart", the first user that tells the makings apart)."""
    together = together_by(face, one, other)
    user = together.first_apart()
    if user is None:
        return ("same", together.relation())
    return ("apart", user)
