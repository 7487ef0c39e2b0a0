"""Dawkline: a network of mail hosts that survives crashes."""
