"""Bounds of what systems cost, by the sizes of their inputs."""
