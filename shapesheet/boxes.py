"""Boxes with upright and level sides: (least x, least y, greatest x, greatest y)."""


def box_of(points):
    """Answer the least box around the points."""
    xs = [x for x, y in points]
    ys = [y for x, y in points]
    return (min(xs), min(ys), max(xs), max(ys))


def squared_gap(box, other):
    """Answer the square of the least distance of two boxes, 0 where they have a point in common."""
    across = max(0, other[0] - box[2], box[0] - other[2])
    up = max(0, other[1] - box[3], box[1] - other[3])
    return across * across + up * up


def covered_area(boxes):
    """Answer the area of all that lies in at least one of the boxes."""
    edges = sorted([box[0] for box in boxes] + [box[2] for box in boxes])
    area = 0
    # No box begins or ends between two edges that follow one another: it fills the strip's width or has none of it.
    for left, right in zip(edges, edges[1:]):
        spans = [(box[1], box[3]) for box in boxes if box[0] <= left and right <= box[2]]
        area += (right - left) * covered_length(sorted(spans))
    return area


def covered_length(spans):
    """Answer the length of all that lies in at least one of the spans (low, high), told by their low ends in order."""
    if len(spans) == 0:
        return 0
    length = 0
    reached = spans[0][0]
    for low, high in spans:
        if high > reached:
            length += high - max(low, reached)
            reached = high
    return length
