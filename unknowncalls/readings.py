"""Who reads what in a turn of two loops, and in which order such turns can come.

A reading is a triple: what a test says of each new item (None where it is not asked), for each
loop the number of the new item that it reads (WAITING is the one that is still to come to it,
None is none), and for each the number of the new item that is still to come to it behind this
turn.

A plan has phases: for each the pairs of a reading and the phase behind a turn with this reading.
A run begins in the first phase; the end can only come in the last one.
"""

WAITING = -1
READINGS = {
    "together": ((None,), (0, 0), (None, None)),
    "crossed": ((None, None), (0, 1), (1, 0)),
    "twice": ((None,), (0, 0), (0, None)),
    "late": ((), (-1, -1), (None, None)),
    "dropped": ((True,), (0, None), (None, None)),
    "shown": ((False,), (0, 0), (None, None)),
    "secret": ((True, True), (0, 1), (None, None)),
}
PLANS = {
    "alike": ((("together", 0),),),
    "exchanged": ((("together", 0), ("crossed", 1)), (("late", 2),), (("together", 2),)),
    "doubled": ((("together", 0), ("twice", 1)), (("late", 2),), (("together", 2),)),
    "dropped": ((("together", 0), ("dropped", 1)), (("together", 1),)),
    "leaks": ((("shown", 0), ("secret", 0)),),
}
