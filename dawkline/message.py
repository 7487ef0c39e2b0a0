"""Messages: traces, hops, the dots of a dialogue, and reports."""

from dawkline.address import format_address

TRACE_START = "Received: by "


def trace(domain):
    """Return the trace line of a domain."""
    return f"{TRACE_START}{domain}"


def hops(lines):
    """Return the number of lines in the head of a message that start like a trace."""
    return len([line for line in head(lines) if line.startswith(TRACE_START)])


def head(lines):
    """Return the lines before the first empty line, or all lines if there is none."""
    if "" in lines:
        return lines[:lines.index("")]
    return lines


def stuff(lines):
    """Return the lines with one more dot before each line that starts with a dot."""
    return tuple([f".{line}" if line.startswith(".") else line for line in lines])


def unstuff(line):
    """Return a stuffed line as it was; the line is not a single dot."""
    return line[1:] if line.startswith(".") else line


def report(recipient, reason):
    """Return the lines of the report that a recipient was not reached, without a trace."""
    return (
        "Subject: undelivered",
        "",
        f"Recipient: {format_address(recipient)}",
        f"Reason: {reason}",
    )
