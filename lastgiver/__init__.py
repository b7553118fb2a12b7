"""Lastgiver: in which order strangers can hand things over, and how much trust is enough."""
