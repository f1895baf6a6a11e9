"""Texts made plain at the doors of a store."""
