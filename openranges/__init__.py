"""Openranges: what every program may answer at each call."""
