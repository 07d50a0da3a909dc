"""Goneyet: how long a struck row is still told."""
