"""A solver that never goes back, and the books of tables for which there is one."""
