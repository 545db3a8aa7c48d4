"""Rows of tiles that are pushed together."""
