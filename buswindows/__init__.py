"""Devices on a bus, and the windows through which they are reached."""
