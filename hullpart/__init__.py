"""Hullpart: points of the plane, their hulls, and what parts them."""
