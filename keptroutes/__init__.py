"""Keptroutes: change tables of binary prefixes at the least price."""
