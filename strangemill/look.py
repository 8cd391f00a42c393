"""The look at a way: its beginning, what goes wrong, papers and roads."""

from strangemill.sheets import Sheet
from strangemill.stands import first_stand, least_paper, led_to, shortest_road, word_due


def beginning(house, body):
    """The stand at which a body begins."""
    return first_stand(Sheet(house, body))


def wrong(house, body, stand):
    """The first word by which a stand goes wrong, or the text without signs."""
    return word_due(Sheet(house, body), stand)


def leads(house, body, stand):
    """The stands to which a stand leads, in their order; none where it goes wrong."""
    return led_to(Sheet(house, body), stand)


def paper_from(house, body, stand):
    """The least paper that holds from a stand; None where there is none."""
    found = least_paper(Sheet(house, body), stand)
    return None if found is None else [found[row] for row in sorted(found)]


def road_from(house, body, stand):
    """A shortest road from a stand; None where there is none."""
    return shortest_road(Sheet(house, body), stand)


def paper_of(house, kind, way):
    """The least paper of the way of that name in a kind; None where there is none."""
    body = house.body(kind, way)
    return paper_from(house, body, beginning(house, body))


def road_of(house, kind, way):
    """A shortest road of the way of that name in a kind; None where there is none."""
    body = house.body(kind, way)
    return road_from(house, body, beginning(house, body))
