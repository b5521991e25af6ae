"""Hookrow: what a caller of a hook gets, whatever the order of its plugins."""
