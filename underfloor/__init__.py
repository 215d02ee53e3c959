"""Underfloor: a kernel beneath small programs, and the plain machine that it is."""
