"""Paths of steps through standings."""


def path_to(came, node):
    """The threads of the steps that lead to a node.

    What came tells of a node is the node ahead of it with the thread of the step between, None of the first one.
    """
    path = []
    while came[node] is not None:
        node, thread = came[node]
        path.append(thread)
    return tuple(path[::-1])
