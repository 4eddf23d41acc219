"""Services that are started and stopped under rules: what can be reached, and which stops come first."""
