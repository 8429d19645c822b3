"""Riverloops: closed roads that cross a river, by arcs above and below that don't cross."""
