"""Nextmarks: a ring log that finds its end without checksums."""
