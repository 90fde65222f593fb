"""Finding a place among what rises."""


def place_in(items, item):
    """The first place among rising items at which one is not less than this one."""
    low = 0
    high = len(items)
    while low < high:
        middle = (low + high) // 2
        if items[middle] < item:
            low = middle + 1
        else:
            high = middle
    return low
