"""Sourceback: edit the output, and the sources follow."""
