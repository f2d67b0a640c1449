"""Walksback: walks in a graph, answered from kept walks."""
