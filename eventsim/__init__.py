"""Exact simulation of processes that wait for one another."""
