"""Pagelend: pages of files, lent to clients by leases."""
