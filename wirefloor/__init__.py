"""Wirefloor: wires laid on a floor of several layers."""
