"""Pipes: a PIPE is a tuple (row, is_sealed), row being the tuple of the values in it; it never changes."""

EMPTY_PIPE = ((), False)


def could_go_on(pipe, room, word):
    """Tell whether a put, a take or a drain of a pipe with this room could be done."""
    row, is_sealed = pipe
    if word == "put":
        return is_sealed or len(row) < room
    return is_sealed or len(row) > 0


def after_put(pipe, value):
    """Return the pipe behind a put that can be done, and what the put tells."""
    row, is_sealed = pipe
    if is_sealed:
        return (pipe, "closed")
    return (((*row, value), is_sealed), "done")


def after_taking(pipe, word):
    """Return the pipe behind a take or a drain that can be done, and what it tells."""
    row, is_sealed = pipe
    if not row:
        return (pipe, "end")
    if word == "take":
        return ((row[1:], is_sealed), row[0])
    return (((), is_sealed), row)


def after_pipe_call(pipe, call):
    """Return the pipe behind a call of it that can be done, and what the call tells."""
    if call[0] == "put":
        return after_put(pipe, call[2])
    if call[0] == "close":
        return ((pipe[0], True), "done")
    return after_taking(pipe, call[0])
