"""Openhouses: which houses to open, so that all ways to them cost least."""
