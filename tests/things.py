"""Things of all kinds that "of anything" means, made anew for each test."""


def no_texts():
    """Things that are no texts: no name and no box can be among them."""
    return [
        None, True, False, 0, 1, -1, 10 ** 5000, -10 ** 5000,
        (), ("a",), ("a", "b"), ("key.low",), [], ["a"], {}, {"a": "b"}, {"a": ["b"]},
        deep(20), [deep(20)], {"a": deep(20)}, ([],), ({},), (None, True, [("a",)]),
    ]


def deep(many):
    """Tuples within one another, so many deep."""
    thing = ()
    for _ in range(many - 1):
        thing = (thing,)
    return thing
