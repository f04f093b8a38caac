"""Holdtalk: answering under a duty, and never being caught."""
