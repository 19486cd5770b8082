"""Boutstairs: cups in which boughs change places."""
