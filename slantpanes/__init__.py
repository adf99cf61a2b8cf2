"""Slantpanes: stripes laid over one another on endless floors."""
