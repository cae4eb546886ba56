"""Every function of the interface that there is."""

from tests.calls import table_calls, way_calls
from tests.desk_calls import change_calls, desk_calls, paper_calls, script_calls
from tests.forget_calls import forget_calls, must_calls, need_calls, tree_calls
from tests.net_calls import book_calls, filling_calls, net_calls, strike_calls
from tests.said_calls import alike_calls, bare_calls, said_calls


def all_calls():
    plain = table_calls() + way_calls() + book_calls() + net_calls() + strike_calls() + filling_calls()
    said = bare_calls() + said_calls() + alike_calls()
    later = forget_calls() + need_calls() + must_calls() + tree_calls()
    return plain + said + later + change_calls() + desk_calls() + script_calls() + paper_calls()
