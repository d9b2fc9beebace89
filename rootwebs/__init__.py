"""Rootwebs: roots of webs."""
