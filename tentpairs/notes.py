"""Camps as texts: a row for each camper, with its number and its list."""

from tentpairs.camps import MOST_CAMPERS, Camp
from tentpairs.errors import BadCamp, BadText


def written_row(camper, wishes):
    return f"{camper}:" + "".join([f" {other}" for other in wishes])


def written(camp):
    return "\n".join([written_row(camper, wishes) for camper, wishes in enumerate(camp.wishes)])


def is_row(parts, place):
    if place >= MOST_CAMPERS or parts[0] != f"{place}:":
        return False
    # Held against what is written: int would take more than single figures for numbers.
    figures = [str(camper) for camper in range(MOST_CAMPERS)]
    # A row may not hold its own figure, so that one counts as seen.
    seen = {str(place): True}
    for part in parts[1:]:
        if part in seen or part not in figures:
            return False
        seen[part] = True
    return True


def read(text):
    if not isinstance(text, str):
        raise BadText(1)
    lists = []
    for place, row in enumerate(text.split("\n")):
        # Two blanks on end, and one at a row's end, leave an empty part, which is no figure.
        parts = row.split(" ")
        if not is_row(parts, place):
            raise BadText(place + 1)
        lists.append([int(part) for part in parts[1:]])
    try:
        return Camp(lists)
    except BadCamp:
        # All rows are of the form: what is left to refuse is a camper that there isn't.
        raise BadText(len(lists) + 1) from None
