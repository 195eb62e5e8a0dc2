"""Merging unsorted queues by the least head."""
