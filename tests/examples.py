"""Runs examples in the form of the document."""

import ast


def outcome(source, names):
    """Return the text that an example shows for the result of an expression."""
    try:
        return repr(eval(source, names))
    except ValueError as error:
        if not isinstance(error, names["RefreshError"]):
            raise
        parts = ", ".join(f"{key}={worth!r}" for key, worth in vars(error).items())
        return f"raises {error.__class__.__name__}({parts})"


def run_example(text):
    """Return pairs of (expected, found) texts for the results that an example shows."""
    from fewrefresh.errors import RefreshError
    names = {"RefreshError": RefreshError}
    lines = text.strip("\n").split("\n")
    pairs = []
    for at, line in enumerate(lines):
        if not line.startswith(">>> "):
            continue
        source = line[len(">>> "):]
        shown = lines[at + 1:at + 2]
        if shown and not shown[0].startswith(">>> "):
            ast.parse(source, mode="eval")
            pairs.append((shown[0], outcome(source, names)))
        else:
            exec(source, names)
    return pairs
