"""A disk that can lose its power, logs, and what is kept on it."""
