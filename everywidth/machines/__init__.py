"""Machines that read the bits of words from the least on."""
