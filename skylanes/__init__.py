"""Skylanes: flights by corners in space and time, and what parts them."""
