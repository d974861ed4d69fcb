"""Hostturn: guest steps turned into house rows, and a checker of whatever rows."""
