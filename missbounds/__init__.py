"""Missbounds: caches compared over all histories of requests."""
