"""What falls along call edges, and trees of falling."""
