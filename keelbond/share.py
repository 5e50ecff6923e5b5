"""The sharing out of funds among claims, rank by rank."""

from keelbond.level import filled


def shared(worths, claims):
    parts = [(0, 1) for claim in claims]
    for rank in sorted(set([claim[2] for claim in claims])):
        # A claim whose due is nought has all that it can get from the start.
        places = [place for place, claim in enumerate(claims) if claim[2] == rank and claim[0] != (0, 1)]
        parts = filled(worths, claims, parts, places)
    return parts
