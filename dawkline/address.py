"""Addresses and paths: how they are written, and how they are parsed."""

from dawkline.errors import InvalidAddress

LOCAL_SIGNS = "abcdefghijklmnopqrstuvwxyz0123456789.-_+"
LABEL_SIGNS = "abcdefghijklmnopqrstuvwxyz0123456789-"
LONGEST_LOCAL = 40
LONGEST_LABEL = 20
LONGEST_DOMAIN = 80


def parse_address(text):
    """Return the address (local, domain) that a string writes, or raise InvalidAddress."""
    # A second @ would be left in the domain, where no label allows it.
    local, _, domain = lower_letters(text).partition("@")
    if not is_local_part(local) or not is_domain(domain):
        raise InvalidAddress(f"not an address: {text!r}")
    return (local, domain)


def format_address(address):
    """Return the written address."""
    local, domain = address
    return f"{local}@{domain}"


def parse_path(text):
    """Return the address of a path, None for the empty sender, or raise InvalidAddress."""
    if text == "<>":
        return None
    if not text.startswith("<") or not text.endswith(">"):
        raise InvalidAddress(f"not a path: {text!r}")
    return parse_address(text[1:-1])


def format_path(address):
    """Return the path of an address, or of None."""
    if address is None:
        return "<>"
    return f"<{format_address(address)}>"


def is_domain(text):
    """Return True if a string is a domain as it stands, otherwise False."""
    if len(text) > LONGEST_DOMAIN:
        return False
    return all([is_label(label) for label in text.split(".")])


def is_label(text):
    """Return True if a string can be one label of a domain, otherwise False."""
    if not consists_of(text, LABEL_SIGNS, LONGEST_LABEL):
        return False
    return not text.startswith("-") and not text.endswith("-")


def is_local_part(text):
    """Return True if a string can be the local part of an address, otherwise False."""
    if not consists_of(text, LOCAL_SIGNS, LONGEST_LOCAL):
        return False
    return not text.startswith(".") and not text.endswith(".") and ".." not in text


def consists_of(text, signs, longest):
    """Return True if a string has 1 to `longest` characters, all of them among the signs."""
    return 1 <= len(text) <= longest and all([sign in signs for sign in text])


def lower_letters(text):
    """Return a string with the letters A to Z in lower case."""
    # lower() would also turn a sign beyond ASCII, the Kelvin sign, into a letter.
    return text.translate(str.maketrans("ABCDEFGHIJKLMNOPQRSTUVWXYZ", "abcdefghijklmnopqrstuvwxyz"))
