"""Programs, and ways to make programs, that several tests use."""

WAY = ("row", 2, False)
WIDE = ("row", None, True)


def tuples_all_down(value):
    if isinstance(value, tuple):
        return all(tuples_all_down(part) for part in value)
    return value is None or isinstance(value, (bool, int, str))


def with_steps(*steps, roads=(WAY,), many=2, others=()):
    """A program whose first role has these steps, all else plain."""
    return (roads, (("main", many, steps),) + others, ("main",))


def asker():
    return (
        (("row", 2, False), ("heap", 3, True), ("row", None, True)),
        (
            ("asker", 2, (
                ("set", 0, 1),
                ("add", 1, 2),
                ("if", 0, 1, 4),
                ("pick", 0, 4, 9),
                ("send", 0, "ask", 1),
                ("tell", 2, "note", 1),
                ("wait", 1, ("no", None, 9), ("yes", 1, 0)),
                ("begin", "helper"),
                ("stop",),
            )),
            ("helper", 0, (("wait", 0, ("ask", None, 1)), ("send", 1, "yes", 2))),
        ),
        ("asker", "helper", "asker"),
    )


ASKER_TEXT = """road row 2
road heap 3 loses
road row wide loses
role asker 2
set 0 1
add 1 2
if 0 1 4
pick 0 4 9
send 0 ask 1
tell 2 note 1
wait 1 no:.:9 yes:1:0
begin helper
stop
role helper 0
wait 0 ask:.:1
send 1 yes 2
hand asker
hand helper
hand asker"""
