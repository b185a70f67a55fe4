"""Cacheheld: what a cache beside a database promises."""
