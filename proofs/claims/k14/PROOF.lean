import PyProof.Rows.All
import PySem.Challenge.RW_helpedcalls_k14_across_in_step
import HandS.Words
import HandS.Lambda
import HandS.CallLocal
import HandS.Head0
import HandS.Head1
import HandS.Head2
import HandS.HeadEnd
import HandS.HeadHook1
import HandS.HeadHook2
import HandS.HeadHook3
import HandS.HeadHook4
import HandS.HeadWalk
import Wide.All
import OpenK.AllK
import Wide.FinOn
import HandS.ForMost
import HandS.Exc
import HandS.TryOnly
import HandS.TryMany
import HandS.ExcOwn
import HandS.Small
import HandS.IsInst
import HandS.Wide
import HandS.TupAny
import HandS.Deep
import HandS.NoneIn
import KE.KDictDisplayH
import HandS.Style
import HandS.More
import HandS.MapSum
import HandS.Zip
import HandS.Sort
import KE.SortData
import HandS.EndTab
import HandS.Defaults
import HandS.Codes
import KE.GoesEnum
import HandS.Iter
import HandS.DictTup
import HandS.DictComp
import HandS.TupMul
import HandS.TupLen
import HandS.WordsDict
/-! part A0 -/
set_option Elab.async false
set_option linter.all false
set_option maxRecDepth 100000
set_option maxHeartbeats 0
namespace DD
end DD
namespace K14
open PySem PySem.Spec PyProof.Rows L2 LamX DD
def clsB : Stmt → List Stmt
  | .ClassDef _ _ _ b _ _ _ _ _ _ _ => b
  | _ => []
def top (i : Nat) : Stmt := PySem.Challenge.pw_helpedcalls_k14_across_in_step.main.body.getD i (.Pass ⟨0, 0, 0, 0⟩)
abbrev s_is_integer : Stmt := top 7
abbrev s_is_within : Stmt := top 8
abbrev s_same : Stmt := top 10
abbrev s_counter_calls : Stmt := top 21
abbrev s_register_calls : Stmt := top 23
abbrev s_stack_calls : Stmt := top 25
abbrev s_queue_calls : Stmt := top 27
abbrev s_set_calls : Stmt := top 30
abbrev s_agree_calls : Stmt := top 32
abbrev s_bank_calls : Stmt := top 34
abbrev s_table_calls : Stmt := top 36
abbrev s_call_rows : Stmt := top 40
abbrev s_has_call : Stmt := top 44
abbrev s_is_thread : Stmt := top 51
abbrev s_is_answer : Stmt := top 52
abbrev s_can_come : Stmt := top 56
abbrev s_wrong_place : Stmt := top 57
abbrev s_has_wide_history : Stmt := top 58
abbrev s_has_size : Stmt := top 12
abbrev s_has_room_and_size : Stmt := top 13
abbrev s_are_within : Stmt := top 9
abbrev s_has_amounts : Stmt := top 14
abbrev s_is_pair : Stmt := top 15
abbrev s_is_row : Stmt := top 16
abbrev s_has_rows : Stmt := top 17
abbrev s_has_form : Stmt := top 19
abbrev s_check_object : Stmt := top 45
abbrev s_check_things : Stmt := top 61
abbrev s_is_wide_history : Stmt := top 77
abbrev s_check_wide_history : Stmt := top 60
abbrev s_check : Stmt := top 79
abbrev s_narrowed : Stmt := top 55
abbrev s_all_parts : Stmt := top 80
abbrev s_parts : Stmt := top 78
abbrev s_widened_event : Stmt := top 54
abbrev s_widened : Stmt := top 53
abbrev s_Span_init : Stmt := (clsB (top 50)).getD 0 (.Pass ⟨0, 0, 0, 0⟩)
abbrev s_spans_in : Stmt := top 62
abbrev s_is_ahead : Stmt := top 65
abbrev s_ahead_of_each : Stmt := top 64
abbrev s_ended : Stmt := top 68
abbrev s_start : Stmt := top 42
abbrev s_starts : Stmt := top 69
abbrev s_counter_step : Stmt := top 22
abbrev s_register_step : Stmt := top 24
abbrev s_put_at_end : Stmt := top 29
abbrev s_stack_step : Stmt := top 26
abbrev s_queue_step : Stmt := top 28
abbrev s_set_step : Stmt := top 31
abbrev s_agree_step : Stmt := top 33
abbrev s_bank_step : Stmt := top 35
abbrev s_table_step : Stmt := top 37
abbrev s_step : Stmt := top 41
abbrev s_states_behind : Stmt := top 70
abbrev s_can_stand : Stmt := top 71
abbrev s_is_order : Stmt := top 75
abbrev s_numbers : Stmt := top 83
abbrev s_weave : Stmt := top 82
abbrev s_woven : Stmt := top 81
abbrev s_following : Stmt := top 72
abbrev s_find_order : Stmt := top 73
abbrev s_explained_all : Stmt := top 84
abbrev s_is_own_before : Stmt := top 67
abbrev s_own_before_each : Stmt := top 66
abbrev s_in_step_all : Stmt := top 85
abbrev s_check_history : Stmt := top 59
abbrev s_checked_spans : Stmt := top 92
abbrev s_explained : Stmt := top 93
abbrev s_count_orders : Stmt := top 74
abbrev s_order_count : Stmt := top 94
abbrev s_Judge_init : Stmt := (clsB (top 87)).getD 0 (.Pass ⟨0, 0, 0, 0⟩)
abbrev s_Judge_keep : Stmt := (clsB (top 87)).getD 4 (.Pass ⟨0, 0, 0, 0⟩)
abbrev s_Judge_first : Stmt := (clsB (top 87)).getD 1 (.Pass ⟨0, 0, 0, 0⟩)
abbrev s_marked : Stmt := top 88
abbrev s_has_heard : Stmt := top 89
abbrev s_spread : Stmt := top 90
abbrev s_Judge_hear : Stmt := (clsB (top 87)).getD 2 (.Pass ⟨0, 0, 0, 0⟩)
abbrev s_first_wrong : Stmt := top 95
abbrev s_in_step : Stmt := top 96
abbrev s_Ltaken : Stmt := top 98
abbrev s_Lpick : Stmt := top 99
abbrev s_law : Stmt := top 101
end K14
/-! part AH -/
set_option Elab.async false
set_option linter.all false
set_option maxRecDepth 100000
set_option maxHeartbeats 0
namespace K14
open PySem PySem.Spec PyProof.Rows L2 LamX DD
def dd_is_integer : He.DefD := ⟨("is_integer", none), "is_integer", "is_integer", defArgs s_is_integer, defBody s_is_integer, defScope s_is_integer, [], []⟩
def dd_is_within : He.DefD := ⟨("is_within", none), "is_within", "is_within", defArgs s_is_within, defBody s_is_within, defScope s_is_within, [], []⟩
def dd_same : He.DefD := ⟨("same", none), "same", "same", defArgs s_same, defBody s_same, defScope s_same, [], []⟩
def dd_counter_calls : He.DefD := ⟨("_counter_calls", none), "_counter_calls", "_counter_calls", defArgs s_counter_calls, defBody s_counter_calls, defScope s_counter_calls, [], []⟩
def dd_register_calls : He.DefD := ⟨("_register_calls", none), "_register_calls", "_register_calls", defArgs s_register_calls, defBody s_register_calls, defScope s_register_calls, [], []⟩
def dd_stack_calls : He.DefD := ⟨("_stack_calls", none), "_stack_calls", "_stack_calls", defArgs s_stack_calls, defBody s_stack_calls, defScope s_stack_calls, [], []⟩
def dd_queue_calls : He.DefD := ⟨("_queue_calls", none), "_queue_calls", "_queue_calls", defArgs s_queue_calls, defBody s_queue_calls, defScope s_queue_calls, [], []⟩
def dd_set_calls : He.DefD := ⟨("_set_calls", none), "_set_calls", "_set_calls", defArgs s_set_calls, defBody s_set_calls, defScope s_set_calls, [], []⟩
def dd_agree_calls : He.DefD := ⟨("_agree_calls", none), "_agree_calls", "_agree_calls", defArgs s_agree_calls, defBody s_agree_calls, defScope s_agree_calls, [], []⟩
def dd_bank_calls : He.DefD := ⟨("_bank_calls", none), "_bank_calls", "_bank_calls", defArgs s_bank_calls, defBody s_bank_calls, defScope s_bank_calls, [], []⟩
def dd_table_calls : He.DefD := ⟨("_table_calls", none), "_table_calls", "_table_calls", defArgs s_table_calls, defBody s_table_calls, defScope s_table_calls, [], []⟩
def dd_call_rows : He.DefD := ⟨("call_rows", none), "call_rows", "call_rows", defArgs s_call_rows, defBody s_call_rows, defScope s_call_rows, [], []⟩
def dd_has_call : He.DefD := ⟨("has_call", none), "has_call", "has_call", defArgs s_has_call, defBody s_has_call, defScope s_has_call, [], []⟩
def dd_is_thread : He.DefD := ⟨("is_thread", none), "is_thread", "is_thread", defArgs s_is_thread, defBody s_is_thread, defScope s_is_thread, [], []⟩
def dd_is_answer : He.DefD := ⟨("_is_answer", none), "_is_answer", "_is_answer", defArgs s_is_answer, defBody s_is_answer, defScope s_is_answer, [], []⟩
def dd_can_come : He.DefD := ⟨("_can_come", none), "_can_come", "_can_come", defArgs s_can_come, defBody s_can_come, defScope s_can_come, [], []⟩
def dd_wrong_place : He.DefD := ⟨("wrong_place", none), "wrong_place", "wrong_place", defArgs s_wrong_place, defBody s_wrong_place, defScope s_wrong_place, [], []⟩
def dd_has_wide_history : He.DefD := ⟨("has_wide_history", none), "has_wide_history", "has_wide_history", defArgs s_has_wide_history, defBody s_has_wide_history, defScope s_has_wide_history, [], []⟩
def dd_has_size : He.DefD := ⟨("_has_size", none), "_has_size", "_has_size", defArgs s_has_size, defBody s_has_size, defScope s_has_size, [], []⟩
def dd_has_room_and_size : He.DefD := ⟨("_has_room_and_size", none), "_has_room_and_size", "_has_room_and_size", defArgs s_has_room_and_size, defBody s_has_room_and_size, defScope s_has_room_and_size, [], []⟩
def dd_are_within : He.DefD := ⟨("are_within", none), "are_within", "are_within", defArgs s_are_within, defBody s_are_within, defScope s_are_within, [], []⟩
def dd_has_amounts : He.DefD := ⟨("_has_amounts", none), "_has_amounts", "_has_amounts", defArgs s_has_amounts, defBody s_has_amounts, defScope s_has_amounts, [], []⟩
def dd_is_pair : He.DefD := ⟨("_is_pair", none), "_is_pair", "_is_pair", defArgs s_is_pair, defBody s_is_pair, defScope s_is_pair, [], []⟩
def dd_is_row : He.DefD := ⟨("_is_row", none), "_is_row", "_is_row", defArgs s_is_row, defBody s_is_row, defScope s_is_row, [], []⟩
def dd_has_rows : He.DefD := ⟨("_has_rows", none), "_has_rows", "_has_rows", defArgs s_has_rows, defBody s_has_rows, defScope s_has_rows, [], []⟩
def dd_has_form : He.DefD := ⟨("has_form", none), "has_form", "has_form", defArgs s_has_form, defBody s_has_form, defScope s_has_form, [], []⟩
def dd_check_object : He.DefD := ⟨("check_object", none), "check_object", "check_object", defArgs s_check_object, defBody s_check_object, defScope s_check_object, [], []⟩
def dd_check_things : He.DefD := ⟨("check_things", none), "check_things", "check_things", defArgs s_check_things, defBody s_check_things, defScope s_check_things, [], []⟩
def dd_is_wide_history : He.DefD := ⟨("is_wide_history", none), "is_wide_history", "is_wide_history", defArgs s_is_wide_history, defBody s_is_wide_history, defScope s_is_wide_history, [], []⟩
def dd_check_wide_history : He.DefD := ⟨("check_wide_history", none), "check_wide_history", "check_wide_history", defArgs s_check_wide_history, defBody s_check_wide_history, defScope s_check_wide_history, [], []⟩
def dd_check : He.DefD := ⟨("_check", none), "_check", "_check", defArgs s_check, defBody s_check, defScope s_check, [], []⟩
def dd_narrowed : He.DefD := ⟨("narrowed", none), "narrowed", "narrowed", defArgs s_narrowed, defBody s_narrowed, defScope s_narrowed, [], []⟩
def dd_all_parts : He.DefD := ⟨("_all_parts", none), "_all_parts", "_all_parts", defArgs s_all_parts, defBody s_all_parts, defScope s_all_parts, [], []⟩
def dd_parts : He.DefD := ⟨("parts", none), "parts", "parts", defArgs s_parts, defBody s_parts, defScope s_parts, [], []⟩
def dd_widened_event : He.DefD := ⟨("_widened_event", none), "_widened_event", "_widened_event", defArgs s_widened_event, defBody s_widened_event, defScope s_widened_event, [], []⟩
def dd_widened : He.DefD := ⟨("widened", none), "widened", "widened", defArgs s_widened, defBody s_widened, defScope s_widened, [], []⟩
def dd_Span_init : He.DefD := ⟨("Span", some "__init__"), "__init__", "Span.__init__", defArgs s_Span_init, defBody s_Span_init, defScope s_Span_init, [], []⟩
def dd_spans_in : He.DefD := ⟨("spans_in", none), "spans_in", "spans_in", defArgs s_spans_in, defBody s_spans_in, defScope s_spans_in, [], []⟩
def dd_is_ahead : He.DefD := ⟨("_is_ahead", none), "_is_ahead", "_is_ahead", defArgs s_is_ahead, defBody s_is_ahead, defScope s_is_ahead, [], []⟩
def dd_ahead_of_each : He.DefD := ⟨("ahead_of_each", none), "ahead_of_each", "ahead_of_each", defArgs s_ahead_of_each, defBody s_ahead_of_each, defScope s_ahead_of_each, [], []⟩
def dd_ended : He.DefD := ⟨("_ended", none), "_ended", "_ended", defArgs s_ended, defBody s_ended, defScope s_ended, [], []⟩
def dd_start : He.DefD := ⟨("start", none), "start", "start", defArgs s_start, defBody s_start, defScope s_start, [], []⟩
def dd_starts : He.DefD := ⟨("_starts", none), "_starts", "_starts", defArgs s_starts, defBody s_starts, defScope s_starts, [], []⟩
def dd_counter_step : He.DefD := ⟨("_counter_step", none), "_counter_step", "_counter_step", defArgs s_counter_step, defBody s_counter_step, defScope s_counter_step, [], []⟩
def dd_register_step : He.DefD := ⟨("_register_step", none), "_register_step", "_register_step", defArgs s_register_step, defBody s_register_step, defScope s_register_step, [], []⟩
def dd_put_at_end : He.DefD := ⟨("_put_at_end", none), "_put_at_end", "_put_at_end", defArgs s_put_at_end, defBody s_put_at_end, defScope s_put_at_end, [], []⟩
def dd_stack_step : He.DefD := ⟨("_stack_step", none), "_stack_step", "_stack_step", defArgs s_stack_step, defBody s_stack_step, defScope s_stack_step, [], []⟩
def dd_queue_step : He.DefD := ⟨("_queue_step", none), "_queue_step", "_queue_step", defArgs s_queue_step, defBody s_queue_step, defScope s_queue_step, [], []⟩
def dd_set_step : He.DefD := ⟨("_set_step", none), "_set_step", "_set_step", defArgs s_set_step, defBody s_set_step, defScope s_set_step, [], []⟩
def dd_agree_step : He.DefD := ⟨("_agree_step", none), "_agree_step", "_agree_step", defArgs s_agree_step, defBody s_agree_step, defScope s_agree_step, [], []⟩
def dd_bank_step : He.DefD := ⟨("_bank_step", none), "_bank_step", "_bank_step", defArgs s_bank_step, defBody s_bank_step, defScope s_bank_step, [], []⟩
def dd_table_step : He.DefD := ⟨("_table_step", none), "_table_step", "_table_step", defArgs s_table_step, defBody s_table_step, defScope s_table_step, [], []⟩
def dd_step : He.DefD := ⟨("step", none), "step", "step", defArgs s_step, defBody s_step, defScope s_step, [], []⟩
def dd_states_behind : He.DefD := ⟨("_states_behind", none), "_states_behind", "_states_behind", defArgs s_states_behind, defBody s_states_behind, defScope s_states_behind, [], []⟩
def dd_can_stand : He.DefD := ⟨("_can_stand", none), "_can_stand", "_can_stand", defArgs s_can_stand, defBody s_can_stand, defScope s_can_stand, [], []⟩
def dd_is_order : He.DefD := ⟨("is_order", none), "is_order", "is_order", defArgs s_is_order, defBody s_is_order, defScope s_is_order, [], []⟩
def dd_numbers : He.DefD := ⟨("_numbers", none), "_numbers", "_numbers", defArgs s_numbers, defBody s_numbers, defScope s_numbers, [], []⟩
def dd_weave : He.DefD := ⟨("_weave", none), "_weave", "_weave", defArgs s_weave, defBody s_weave, defScope s_weave, [], []⟩
def dd_woven : He.DefD := ⟨("woven", none), "woven", "woven", defArgs s_woven, defBody s_woven, defScope s_woven, [], []⟩
def dd_following : He.DefD := ⟨("_following", none), "_following", "_following", defArgs s_following, defBody s_following, defScope s_following, [], []⟩
def dd_find_order : He.DefD := ⟨("find_order", none), "find_order", "find_order", defArgs s_find_order, defBody s_find_order, defScope s_find_order, [], []⟩
def dd_explained_all : He.DefD := ⟨("explained_all", none), "explained_all", "explained_all", defArgs s_explained_all, defBody s_explained_all, defScope s_explained_all, [], []⟩
def dd_is_own_before : He.DefD := ⟨("_is_own_before", none), "_is_own_before", "_is_own_before", defArgs s_is_own_before, defBody s_is_own_before, defScope s_is_own_before, [], []⟩
def dd_own_before_each : He.DefD := ⟨("own_before_each", none), "own_before_each", "own_before_each", defArgs s_own_before_each, defBody s_own_before_each, defScope s_own_before_each, [], []⟩
def dd_in_step_all : He.DefD := ⟨("in_step_all", none), "in_step_all", "in_step_all", defArgs s_in_step_all, defBody s_in_step_all, defScope s_in_step_all, [], []⟩
def dd_check_history : He.DefD := ⟨("check_history", none), "check_history", "check_history", defArgs s_check_history, defBody s_check_history, defScope s_check_history, [], []⟩
def dd_checked_spans : He.DefD := ⟨("_checked_spans", none), "_checked_spans", "_checked_spans", defArgs s_checked_spans, defBody s_checked_spans, defScope s_checked_spans, [], []⟩
def dd_explained : He.DefD := ⟨("explained", none), "explained", "explained", defArgs s_explained, defBody s_explained, defScope s_explained, [], []⟩
def dd_count_orders : He.DefD := ⟨("count_orders", none), "count_orders", "count_orders", defArgs s_count_orders, defBody s_count_orders, defScope s_count_orders, [], []⟩
def dd_order_count : He.DefD := ⟨("order_count", none), "order_count", "order_count", defArgs s_order_count, defBody s_order_count, defScope s_order_count, [], []⟩
def dd_Judge_init : He.DefD := ⟨("Judge", some "__init__"), "__init__", "Judge.__init__", defArgs s_Judge_init, defBody s_Judge_init, defScope s_Judge_init, [], []⟩
def dd_Judge_keep : He.DefD := ⟨("Judge", some "keep"), "keep", "Judge.keep", defArgs s_Judge_keep, defBody s_Judge_keep, defScope s_Judge_keep, [], []⟩
def dd_Judge_first : He.DefD := ⟨("Judge", some "first"), "first", "Judge.first", defArgs s_Judge_first, defBody s_Judge_first, defScope s_Judge_first, [], []⟩
def dd_marked : He.DefD := ⟨("_marked", none), "_marked", "_marked", defArgs s_marked, defBody s_marked, defScope s_marked, [], []⟩
def dd_has_heard : He.DefD := ⟨("_has_heard", none), "_has_heard", "_has_heard", defArgs s_has_heard, defBody s_has_heard, defScope s_has_heard, [], []⟩
def dd_spread : He.DefD := ⟨("_spread", none), "_spread", "_spread", defArgs s_spread, defBody s_spread, defScope s_spread, [], []⟩
def dd_Judge_hear : He.DefD := ⟨("Judge", some "hear"), "hear", "Judge.hear", defArgs s_Judge_hear, defBody s_Judge_hear, defScope s_Judge_hear, [], []⟩
def dd_first_wrong : He.DefD := ⟨("first_wrong", none), "first_wrong", "first_wrong", defArgs s_first_wrong, defBody s_first_wrong, defScope s_first_wrong, [], []⟩
def dd_in_step : He.DefD := ⟨("in_step", none), "in_step", "in_step", defArgs s_in_step, defBody s_in_step, defScope s_in_step, [], []⟩
def dd_Ltaken : He.DefD := ⟨("_law_taken", none), "_law_taken", "_law_taken", defArgs s_Ltaken, defBody s_Ltaken, defScope s_Ltaken, [], []⟩
def dd_Lpick : He.DefD := ⟨("_law_pick", none), "_law_pick", "_law_pick", defArgs s_Lpick, defBody s_Lpick, defScope s_Lpick, [], []⟩
def dd_law : He.DefD := ⟨("law", none), "law", "law", defArgs s_law, defBody s_law, defScope s_law, [], []⟩
def fns0 : List He.DefD := [dd_is_integer, dd_is_within, dd_same, dd_counter_calls, dd_register_calls, dd_stack_calls, dd_queue_calls, dd_set_calls, dd_agree_calls, dd_bank_calls, dd_table_calls, dd_call_rows, dd_has_call, dd_is_thread, dd_is_answer, dd_can_come, dd_wrong_place, dd_has_wide_history, dd_has_size, dd_has_room_and_size, dd_are_within, dd_has_amounts, dd_is_pair, dd_is_row, dd_has_rows, dd_has_form, dd_check_object, dd_check_things, dd_is_wide_history, dd_check_wide_history]
def fns1 : List He.DefD := [dd_check, dd_narrowed, dd_all_parts, dd_parts, dd_widened_event, dd_widened, dd_Span_init, dd_spans_in, dd_is_ahead, dd_ahead_of_each, dd_ended, dd_start, dd_starts, dd_counter_step, dd_register_step, dd_put_at_end, dd_stack_step, dd_queue_step, dd_set_step, dd_agree_step, dd_bank_step, dd_table_step, dd_step, dd_states_behind, dd_can_stand, dd_is_order, dd_numbers, dd_weave, dd_woven, dd_following]
def fns2 : List He.DefD := [dd_find_order, dd_explained_all, dd_is_own_before, dd_own_before_each, dd_in_step_all, dd_check_history, dd_checked_spans, dd_explained, dd_count_orders, dd_order_count, dd_Judge_init, dd_Judge_keep, dd_Judge_first, dd_marked, dd_has_heard, dd_spread, dd_Judge_hear, dd_first_wrong, dd_in_step, dd_Ltaken, dd_Lpick, dd_law]
def fns : List He.DefD := fns0 ++ fns1 ++ fns2
def fas0 : List He.Fa := [.glo "is_integer", .glo "is_within", .glo "same", .glo "_counter_calls", .glo "_register_calls", .glo "_stack_calls", .glo "_queue_calls", .glo "_set_calls", .glo "_agree_calls", .glo "_bank_calls", .glo "_table_calls", .glo "call_rows", .glo "has_call", .glo "is_thread", .glo "_is_answer", .glo "_can_come", .glo "wrong_place", .glo "has_wide_history", .glo "_has_size", .glo "_has_room_and_size", .glo "are_within", .glo "_has_amounts", .glo "_is_pair", .glo "_is_row", .glo "_has_rows", .glo "has_form", .glo "check_object", .glo "check_things", .glo "is_wide_history", .glo "check_wide_history"]
def fas1 : List He.Fa := [.glo "_check", .glo "narrowed", .glo "_all_parts", .glo "parts", .glo "_widened_event", .glo "widened", .glo "spans_in", .glo "_is_ahead", .glo "ahead_of_each", .glo "_ended", .glo "start", .glo "_starts", .glo "_counter_step", .glo "_register_step", .glo "_put_at_end", .glo "_stack_step", .glo "_queue_step", .glo "_set_step", .glo "_agree_step", .glo "_bank_step", .glo "_table_step", .glo "step", .glo "_states_behind", .glo "_can_stand", .glo "is_order", .glo "_numbers", .glo "_weave", .glo "woven", .glo "_following", .glo "find_order"]
def fas2 : List He.Fa := [.glo "explained_all", .glo "_is_own_before", .glo "own_before_each", .glo "in_step_all", .glo "check_history", .glo "_checked_spans", .glo "explained", .glo "count_orders", .glo "order_count", .glo "_marked", .glo "_has_heard", .glo "_spread", .glo "first_wrong", .glo "in_step", .glo "_law_taken", .glo "_law_pick", .glo "law", .free "all", .free "any", .free "bool", .free "enumerate", .free "int", .free "isinstance", .free "len", .free "list", .free "range", .free "sorted", .free "str", .free "sum", .free "tuple"]
def fas3 : List He.Fa := [.free "zip", .glo "Judge", .glo "Span", .cls "Judge", .cls "Span", .noat "Judge" "known", .noat "Judge" "numbers", .noat "Judge" "thing", .noat "Span" "answer", .noat "Span" "begin", .noat "Span" "call", .noat "Span" "end", .noat "Span" "place", .noat "Span" "thread", .mkr "Span", .mkr "Judge", .meth "Judge" "keep", .meth "Judge" "first", .meth "Judge" "hear", .glo "_FORMS", .glo "_CALLS", .glo "_STEPS", .int "THREADS" 4, .int "MOST_EVENTS" 24, .int "MOST_OBJECTS" 3]
def fas : List He.Fa := fas0 ++ fas1 ++ fas2 ++ fas3
def tsK : List He.Tab := [(fun K => He.ga K "_FORMS", ["counter", "register", "stack", "queue", "set", "agree", "bank", "table"]), (fun K => He.ga K "_CALLS", ["counter", "register", "stack", "queue", "set", "agree", "bank", "table"]), (fun K => He.ga K "_STEPS", ["counter", "register", "stack", "queue", "set", "agree", "bank", "table"])]
def tfK : List He.Defn := []
def exK (K : PySem.W.Frag) : Bool := He.valsB K (He.ga K "_FORMS") [("counter", .glo "_has_size"), ("register", .glo "_has_size"), ("stack", .glo "_has_room_and_size"), ("queue", .glo "_has_room_and_size"), ("set", .glo "_has_size"), ("agree", .glo "_has_size"), ("bank", .glo "_has_amounts"), ("table", .glo "_has_rows")] && He.valsB K (He.ga K "_CALLS") [("counter", .glo "_counter_calls"), ("register", .glo "_register_calls"), ("stack", .glo "_stack_calls"), ("queue", .glo "_queue_calls"), ("set", .glo "_set_calls"), ("agree", .glo "_agree_calls"), ("bank", .glo "_bank_calls"), ("table", .glo "_table_calls")] && He.valsB K (He.ga K "_STEPS") [("counter", .glo "_counter_step"), ("register", .glo "_register_step"), ("stack", .glo "_stack_step"), ("queue", .glo "_queue_step"), ("set", .glo "_set_step"), ("agree", .glo "_agree_step"), ("bank", .glo "_bank_step"), ("table", .glo "_table_step")]
def loose0 : List PySem.Str := ["_wall", "__name__", "SharedError", "BadObject", "BadHistory", "BadOrders", "is_integer", "is_within", "are_within", "same", "_has_size", "_has_room_and_size", "_has_amounts", "_is_pair", "_is_row", "_has_rows", "_FORMS", "has_form", "_counter_calls", "_counter_step", "_register_calls", "_register_step", "_stack_calls", "_stack_step", "_queue_calls"]
def loose1 : List PySem.Str := ["_queue_step", "_put_at_end", "_set_calls", "_set_step", "_agree_calls", "_agree_step", "_bank_calls", "_bank_step", "_table_calls", "_table_step", "_CALLS", "_STEPS", "call_rows", "step", "start", "has_call", "check_object", "THREADS", "MOST_EVENTS", "MOST_OBJECTS", "Span", "is_thread", "_is_answer", "widened", "_widened_event"]
def loose2 : List PySem.Str := ["narrowed", "_can_come", "wrong_place", "has_wide_history", "check_history", "check_wide_history", "check_things", "spans_in", "ahead_of_each", "_is_ahead", "own_before_each", "_is_own_before", "_ended", "_starts", "_states_behind", "_can_stand", "_following", "find_order", "count_orders", "is_order", "is_wide_history", "parts", "_check", "_all_parts", "woven"]
def loose3 : List PySem.Str := ["_weave", "_numbers", "explained_all", "in_step_all", "Judge", "_marked", "_has_heard", "_spread", "_checked_spans", "explained", "order_count", "first_wrong", "in_step", "_law_taken", "_law_pick", "_law_alike"]
def loose : List PySem.Str := loose0 ++ loose1 ++ loose2 ++ loose3
abbrev RO : PySem.W.OpenRow := PySem.W.OpenLaw.row PySem.Challenge.rw_helpedcalls_k14_across_in_step
abbrev hk : PySem.W.Hook := He.hookX 4 fas fns tsK tfK exK
def ob (s : PySem.W.SharedT) : He.AlX := He.obsX 4 fas fns tsK tfK exK (HandSHeadRun.getT s)
theorem ob_eq (s : PySem.W.SharedT) : ob s = hk.obs s.abs := He.obsX_eq (HandSHeadRun.getT_eq s)
theorem join3 {σ α β γ : Type} {x : Option σ} {a : σ → α} {b : σ → β} {c : σ → γ} {u : α} {v : β} {z : γ} (ha : x.map a = some u) (hb : x.map b = some v) (hc : x.map c = some z) : x.map (fun s => (a s, b s, c s)) = some (u, v, z) := by
  cases x with
  | none => cases ha
  | some s =>
    simp only [Option.map_some, Option.some.injEq] at ha hb hc ⊢
    rw [ha, hb, hc]
theorem run_fl (w : World) (os : OsState) : (HandSHeadRun.endF (HandSHeadRun.stepQ (HandSHeadRun.denQ HandSHeadRun.tabQ) RO.prog (w.withFollow "special-get-raises" false)) 20000 RO.prog (w.withFollow "special-get-raises" false) os).map (fun s => HandSHeadRun.looksF RO.prog (PySem.W.boot_heap (w.withFollow "special-get-raises" false).params) s.abs) = some (true) := by
  kernel_rfl
theorem run_fs (w : World) (os : OsState) : (HandSHeadRun.endF (HandSHeadRun.stepQ (HandSHeadRun.denQ HandSHeadRun.tabQ) RO.prog (w.withFollow "special-get-raises" false)) 20000 RO.prog (w.withFollow "special-get-raises" false) os).map (fun s => HandSHeadRun.seenQ (PySem.W.view RO.prog [101]) loose (importedModules RO.prog.main.body) (fun s => PySem.W.xlAt (PySem.W.view RO.prog [101]) [] s && PySem.W.recOk RO.records s) s.abs) = some (PySem.W.openGood (PySem.W.view RO.prog [101]) loose) := by
  kernel_rfl
theorem run_fo (w : World) (os : OsState) : (HandSHeadRun.endF (HandSHeadRun.stepQ (HandSHeadRun.denQ HandSHeadRun.tabQ) RO.prog (w.withFollow "special-get-raises" false)) 20000 RO.prog (w.withFollow "special-get-raises" false) os).map (fun s => ob s) = some (hk.val (w.withFollow "special-get-raises" false)) := by
  kernel_rfl
theorem run_f (w : World) : HandSHeadRun.RunEq RO (PySem.W.view RO.prog [101]) hk ob 20000 loose (w.withFollow "special-get-raises" false) := fun os => join3 (run_fl w os) (run_fs w os) (run_fo w os)
theorem run_tl (w : World) (os : OsState) : (HandSHeadRun.endF (HandSHeadRun.stepQ (HandSHeadRun.denQ HandSHeadRun.tabQ) RO.prog (w.withFollow "special-get-raises" true)) 20000 RO.prog (w.withFollow "special-get-raises" true) os).map (fun s => HandSHeadRun.looksF RO.prog (PySem.W.boot_heap (w.withFollow "special-get-raises" true).params) s.abs) = some (true) := by
  kernel_rfl
theorem run_ts (w : World) (os : OsState) : (HandSHeadRun.endF (HandSHeadRun.stepQ (HandSHeadRun.denQ HandSHeadRun.tabQ) RO.prog (w.withFollow "special-get-raises" true)) 20000 RO.prog (w.withFollow "special-get-raises" true) os).map (fun s => HandSHeadRun.seenQ (PySem.W.view RO.prog [101]) loose (importedModules RO.prog.main.body) (fun s => PySem.W.xlAt (PySem.W.view RO.prog [101]) [] s && PySem.W.recOk RO.records s) s.abs) = some (PySem.W.openGood (PySem.W.view RO.prog [101]) loose) := by
  kernel_rfl
theorem run_to (w : World) (os : OsState) : (HandSHeadRun.endF (HandSHeadRun.stepQ (HandSHeadRun.denQ HandSHeadRun.tabQ) RO.prog (w.withFollow "special-get-raises" true)) 20000 RO.prog (w.withFollow "special-get-raises" true) os).map (fun s => ob s) = some (hk.val (w.withFollow "special-get-raises" true)) := by
  kernel_rfl
theorem run_t (w : World) : HandSHeadRun.RunEq RO (PySem.W.view RO.prog [101]) hk ob 20000 loose (w.withFollow "special-get-raises" true) := fun os => join3 (run_tl w os) (run_ts w os) (run_to w os)
theorem headrun (w : World) : HandSHeadRun.RunEq RO (PySem.W.view RO.prog [101]) hk ob 20000 loose w :=
  PySem.W.byRow2 "special-get-raises" (P := fun w => HandSHeadRun.RunEq RO (PySem.W.view RO.prog [101]) hk ob 20000 loose w) run_f run_t w
end K14
/-! part DA -/
set_option Elab.async false
set_option linter.all false
set_option maxRecDepth 100000
set_option maxHeartbeats 4000000
/-! A verified reading of plain Python: values as data (PyData), a store of mutable lists, defs by name. -/
namespace DD
open PySem PySem.Spec PyProof.Rows L2 LamX

/-- a dict's key as it was stored: True, False beside 1, 0 -/
inductive NK where
  | none | num (i : Int) | bool (b : Bool) | text (x : Str) | tup (ks : List NK)
mutual
/-- .. up to == -/
def NK.toN : NK → NestedKey
  | .none => .none
  | .num i => .num i
  | .bool b => .num (if b = true then 1 else 0)
  | .text x => .text x
  | .tup ks => .tup (NK.toNs ks)
def NK.toNs : List NK → List NestedKey
  | [] => []
  | k :: ks => NK.toN k :: NK.toNs ks
end
mutual
def NK.data : NK → PyData
  | .none => .none
  | .num i => .int i
  | .bool b => .bool b
  | .text x => .str x
  | .tup ks => .tuple (NK.datas ks)
def NK.datas : List NK → List PyData
  | [] => []
  | k :: ks => NK.data k :: NK.datas ks
end
def NK.isBool : NK → Bool
  | .bool _ => true
  | _ => false
/-- a value: data, a mutable object of the store, a def by its name -/
inductive Vl where
  | d (x : PyData) | m (n : Nat) | f (x : Str) | r (lo hi : Int) | p (a b : Vl)
/-- a mutable object: a list, a dict of data; a list, a dict of any values; an instance -/
inductive MO where
  | l (xs : List PyData)
  | k (kvs : List (NK × PyData))
  | q (ws : List Vl)
  | w (kvs : List (NestedKey × Vl))
  | o (c : Str) (fs : List (Str × Vl))
  | z (kvs : List (NK × PyData))
/-- the world and the module's names -/
structure Wg where
  w : World
  mg : Str → Option Value
abbrev Sto := List MO
abbrev Ev := List (Option Vl)
/-- what a computation gives: an answer or an exception's class -/
def M (α : Type) := Sto → Option (Except Str α × Sto)
instance : Monad M where
  pure a := fun S => some (.ok a, S)
  bind m g := fun S => match m S with
    | none => none
    | some (.error e, S') => some (.error e, S')
    | some (.ok a, S') => g a S'
def M.fail {α : Type} : M α := fun _ => none
def M.lift {α : Type} (o : Option α) : M α := fun S => o.map fun a => (.ok a, S)
theorem M.pure_run {α : Type} (a : α) (S : Sto) : (pure a : M α) S = some (.ok a, S) := rfl
theorem M.bind_run {α β : Type} (m : M α) (g : α → M β) (S : Sto) : (m >>= g) S = match m S with
    | none => none
    | some (.error e, S') => some (.error e, S')
    | some (.ok a, S') => g a S' := rfl

/-! ### data and the abstract heap -/
/-- the live objects: those of the store by their numbers, hidden ones (a comprehension's list while it is filled) -/
structure Lv where
  st : List Addr
  hid : List Addr
def Lv.no (r : Lv) (a : Addr) : Prop := a ∉ r.st ∧ a ∉ r.hid
def Lv.yes (r : Lv) (a : Addr) : Prop := a ∈ r.st ∨ a ∈ r.hid
/-- a list of the written part -/
def KL (K : PySem.W.Frag) (a : Addr) (xs : List V) : Prop :=
  ∃ (o : Obj) (its : Array Value) (n : Nat), K.lookup a = some o ∧ o.cls = .type "list" ∧ o.dict = none ∧ o.data = .seq its n ∧ its.size ≤ sizeLine ∧ Vals xs its.toList
/-- a list that nobody changes any more: not among the live ones r -/
def SqF (K : PySem.W.Frag) (r : Lv) (H : Hp) (a : Addr) (xs : List V) : Prop :=
  (H a = some (.lst xs) ∧ r.no a) ∨ (∃ o, H a = some (.frz o (.lst xs))) ∨ KL K a xs
theorem SqF.sq {K : PySem.W.Frag} {r : Lv} {H : Hp} {a : Addr} {xs : List V} (h : SqF K r H a xs) : SqL K H a xs := by
  rcases h with ⟨h, _⟩ | ⟨o, h⟩ | h
  · exact .inl (.inl h)
  · exact .inl (.inr ⟨o, h⟩)
  · exact .inr h
mutual
inductive Rp (K : PySem.W.Frag) (r : Lv) (H : Hp) : V → PyData → Prop
  | non : Rp K r H .non .none
  | bl (b : Bool) : Rp K r H (.bl b) (.bool b)
  | int (i : Int) : Rp K r H (.int i) (.int i)
  | str (x : Str) : Rp K r H (.str x) (.str x)
  | lst {a : Addr} {xs : List V} {ds : List PyData} : SqF K r H a xs → RpAll K r H xs ds → Rp K r H (.ref a) (.list ds)
  | tup {a : Addr} {xs : List V} {ds : List PyData} : SqT K H a xs → RpAll K r H xs ds → Rp K r H (.ref a) (.tuple ds)
inductive RpAll (K : PySem.W.Frag) (r : Lv) (H : Hp) : List V → List PyData → Prop
  | nil : RpAll K r H [] []
  | cons {v : V} {vs : List V} {d : PyData} {ds : List PyData} : Rp K r H v d → RpAll K r H vs ds → RpAll K r H (v :: vs) (d :: ds)
end
section
variable {K : PySem.W.Frag} {r r' : Lv} {H H' : Hp}
theorem RpAll.length : ∀ {vs : List V} {ds : List PyData}, RpAll K r H vs ds → vs.length = ds.length
  | _, _, .nil => rfl
  | _, _, .cons _ t => by simp [RpAll.length t]
theorem RpAll.get : ∀ {vs : List V} {ds : List PyData} {i : Nat} {d : PyData}, RpAll K r H vs ds → ds[i]? = some d → ∃ v, vs[i]? = some v ∧ Rp K r H v d
  | _, _, _, _, .nil, e => by simp at e
  | _, _, 0, _, .cons h _, e => by simp at e; subst e; exact ⟨_, rfl, h⟩
  | _, _, i + 1, d, .cons _ t, e => by
    obtain ⟨v, h1, h2⟩ := RpAll.get (i := i) (d := d) t (by simpa using e)
    exact ⟨v, by simpa using h1, h2⟩
theorem RpAll.getV : ∀ {vs : List V} {ds : List PyData} {i : Nat} {v : V}, RpAll K r H vs ds → vs[i]? = some v → ∃ d, ds[i]? = some d ∧ Rp K r H v d
  | _, _, _, _, .nil, e => by simp at e
  | _, _, 0, _, .cons h _, e => by simp at e; subst e; exact ⟨_, rfl, h⟩
  | _, _, i + 1, v, .cons _ t, e => by
    obtain ⟨d, h1, h2⟩ := RpAll.getV (i := i) (v := v) t (by simpa using e)
    exact ⟨d, by simpa using h1, h2⟩
theorem RpAll.append : ∀ {vs us : List V} {ds es : List PyData}, RpAll K r H vs ds → RpAll K r H us es → RpAll K r H (vs ++ us) (ds ++ es)
  | _, _, _, _, .nil, s => s
  | _, _, _, _, .cons h t, s => .cons h (RpAll.append t s)
theorem RpAll.take : ∀ {vs : List V} {ds : List PyData} (n : Nat), RpAll K r H vs ds → RpAll K r H (vs.take n) (ds.take n)
  | _, _, 0, _ => .nil
  | _, _, _ + 1, .nil => .nil
  | _, _, n + 1, .cons h t => .cons h (RpAll.take n t)
theorem RpAll.drop : ∀ {vs : List V} {ds : List PyData} (n : Nat), RpAll K r H vs ds → RpAll K r H (vs.drop n) (ds.drop n)
  | _, _, 0, h => h
  | _, _, _ + 1, .nil => .nil
  | _, _, n + 1, .cons _ t => RpAll.drop n t
theorem RpAll.set {v : V} {d : PyData} (h : Rp K r H v d) : ∀ {vs : List V} {ds : List PyData} (n : Nat), RpAll K r H vs ds → RpAll K r H (vs.set n v) (ds.set n d)
  | _, _, _, .nil => .nil
  | _, _, 0, .cons _ t => .cons h t
  | _, _, n + 1, .cons q t => .cons q (RpAll.set h n t)
mutual
theorem Rp.dp : ∀ {v : V} {d : PyData}, Rp K r H v d → Dp K H v d
  | _, _, .non => .non
  | _, _, .bl b => .bl b
  | _, _, .int i => .int i
  | _, _, .str x => .str x
  | _, _, .lst h t => .lst h.sq (RpAll.dp t)
  | _, _, .tup h t => .tup h (RpAll.dp t)
theorem RpAll.dp : ∀ {vs : List V} {ds : List PyData}, RpAll K r H vs ds → DpAll K H vs ds
  | _, _, .nil => .nil
  | _, _, .cons h t => .cons (Rp.dp h) (RpAll.dp t)
end
mutual
theorem Rp.map (hl : ∀ a xs, SqF K r H a xs → SqF K r' H' a xs) (ht : ∀ a xs, SqT K H a xs → SqT K H' a xs) : ∀ {v : V} {d : PyData}, Rp K r H v d → Rp K r' H' v d
  | _, _, .non => .non
  | _, _, .bl b => .bl b
  | _, _, .int i => .int i
  | _, _, .str x => .str x
  | _, _, .lst h t => .lst (hl _ _ h) (RpAll.map hl ht t)
  | _, _, .tup h t => .tup (ht _ _ h) (RpAll.map hl ht t)
theorem RpAll.map (hl : ∀ a xs, SqF K r H a xs → SqF K r' H' a xs) (ht : ∀ a xs, SqT K H a xs → SqT K H' a xs) : ∀ {vs : List V} {ds : List PyData}, RpAll K r H vs ds → RpAll K r' H' vs ds
  | _, _, .nil => .nil
  | _, _, .cons h t => .cons (Rp.map hl ht h) (RpAll.map hl ht t)
end
end
/-- a key carried by value -/
def nkeyV : Option Key → NestedKey
  | none => .none
  | some (.inl i) => .num i
  | some (.inr x) => .text x
/-- a dict's object at a: keys by value, or keys that are tuples -/
def DForm (wd : World) (a : Addr) (kvs : List (NestedKey × Addr × V)) (h : Heap) : Prop :=
  kvs.length ≤ sizeLine ∧ (a == sysModules) = false ∧
  ((∃ vs : List (Option Key × Value), Paired (fun (p : NestedKey × Addr × V) (q : Option Key × Value) => p.1 = nkeyV q.1 ∧ RelV p.2.2 q.2) kvs vs ∧ ∀ P : Program, h.DictOf (noneKind P wd) a vs) ∨
   ((∀ p ∈ kvs, ∃ ks, p.1 = .tup ks) ∧ ∃ xs : List (NestedKey × Addr × Value), Paired (fun (p : NestedKey × Addr × V) (q : NestedKey × Addr × Value) => p.1 = q.1 ∧ p.2.1 = q.2.1 ∧ RelV p.2.2 q.2.2) kvs xs ∧
     ∃ o es ep, h.get? a = some o ∧ o.ExactDict ∧ o.data = .dict es ep ∧ es.toList = xs.map (fun x => (⟨x.1.hash wd, .ref x.2.1, x.2.2⟩ : DictEntry)) ∧ (xs.map (·.1)).Nodup))
theorem DForm.obj {wd : World} {a : Addr} {kvs : List (NestedKey × Addr × V)} {h : Heap} (x : DForm wd a kvs h) : ∃ o es ep, h.get? a = some o ∧ o.data = .dict es ep := by
  obtain ⟨_, _, ⟨vs, _, d⟩ | ⟨_, xs, _, o, es, ep, e, _, e2, _⟩⟩ := x
  · obtain ⟨o, es, ep, e, _, e2, _⟩ := d default
    exact ⟨o, es, ep, e, e2⟩
  · exact ⟨o, es, ep, e, e2⟩
abbrev HoD (wd : World) (a : Addr) (kvs : List (NestedKey × Addr × V)) : HO := .ext (DForm wd a kvs)
theorem codeO_hoD {c a : Addr} {q : Str} {wd : World} {kvs : List (NestedKey × Addr × V)} (e : CodeO c q = HoD wd a kvs) : False := by
  unfold LamX.CodeO HoD at e
  have e2 := HO.ext.inj e
  have h := congrFun e2 ⟨(List.replicate (c + 1) { cls := .none, data := .fields #[.none, .str q 0] }).toArray, {}⟩
  have l : ∃ (oc : Obj) (vs : Array Value) (t : Tok), Heap.get? ⟨(List.replicate (c + 1) ({ cls := .none, data := .fields #[.none, .str q 0] } : Obj)).toArray, {}⟩ c = some oc ∧ oc.data = .fields vs ∧ vs[1]? = some (.str q t) :=
    ⟨{ cls := .none, data := .fields #[.none, .str q 0] }, #[.none, .str q 0], 0, by simp [Heap.get?], rfl, rfl⟩
  rw [h] at l
  obtain ⟨o, es, ep, h1, h2⟩ := l.obj
  unfold Heap.get? at h1
  have : ∀ x : Nat, (List.replicate (c + 1) ({ cls := .none, data := .fields #[.none, .str q 0] } : Obj)).toArray[x]? = none ∨ (List.replicate (c + 1) ({ cls := .none, data := .fields #[.none, .str q 0] } : Obj)).toArray[x]? = some { cls := .none, data := .fields #[.none, .str q 0] } := fun x => by
    simp only [List.getElem?_toArray, List.getElem?_replicate]
    split
    · exact .inr rfl
    · exact .inl rfl
  rcases this a with z | z
  · simp only [z] at h1; cases h1
  · simp only [z] at h1
    cases h1
    cases h2
/-- what may be live -/
def MutL : Option HO → Prop
  | some (.lst _) => True
  | some (.ext φ) => ∃ wd a kvs, φ = DForm wd a kvs
  | some (.ins _ _ _) => True
  | some (.frz _ (.ext φ)) => ∃ wd a kvs, φ = DForm wd a kvs
  | _ => False
/-- nothing stands at a (where lambdas are made: or a table) -/
def Nt (lam : Bool) (H : Hp) (a : Addr) : Prop := H a = none ∨ (lam = true ∧ ∃ ps, H a = some (.tbl ps))
theorem Nt.clash {lam : Bool} {H : Hp} {a : Addr} {o : HO} (h : Nt lam H a) (e : H a = some o) : lam = true ∧ ∃ ps, o = .tbl ps := by
  rcases h with h | ⟨l, ps, h⟩
  · rw [h] at e; cases e
  · rw [h] at e; exact ⟨l, ps, (Option.some.inj e).symm⟩
/-- from (r, H) on to (r', H'): the live ones grow, all that is not live stands (but tables, where lambdas are made) -/
structure Ext (lam : Bool) (r r' : Lv) (H H' : Hp) : Prop where
  pre : ∃ new, r' = ⟨r.st ++ new, r.hid⟩ ∧ ∀ a ∈ new, Nt lam H a
  keep : ∀ a o, H a = some o → a ∉ r.st → H' a = some o ∨ (lam = true ∧ ∃ ps, o = .tbl ps)
  dom : ∀ a, H' a = none → Nt lam H a
  mu : ∀ a, r.yes a → MutL (H a)
  lock : ∀ a od u, H a = some (.frz od u) → H' a = some (.frz od u)
/-- not locked -/
def NoF (H : Hp) (p : Addr) : Prop := ∀ od u, H p ≠ some (.frz od u)
theorem nofL {H : Hp} {p : Addr} {xs : List V} (e : H p = some (.lst xs)) : NoF H p := fun _ _ z => by rw [e] at z; cases z
theorem nofE {H : Hp} {p : Addr} {φ : Heap → Prop} (e : H p = some (.ext φ)) : NoF H p := fun _ _ z => by rw [e] at z; cases z
theorem nofI {H : Hp} {p C dx : Addr} {fs : List (Str × V)} (e : H p = some (.ins C dx fs)) : NoF H p := fun _ _ z => by rw [e] at z; cases z
section
variable {K : PySem.W.Frag} {lam : Bool} {r r1 r2 : Lv} {H H1 H2 : Hp}
theorem Ext.back (a : Ext lam r r1 H H1) (mu : ∀ x, r.yes x → MutL (H1 x)) {x : Addr} (h : Nt lam H1 x) : Nt lam H x := by
  rcases h with h | ⟨l, ps, h⟩
  · exact a.dom x h
  · cases q : H x with
    | none => exact .inl q
    | some o =>
      rcases a.keep x o q (fun hm => by have z := mu x (.inl hm); rw [h] at z; exact z) with z | z
      · rw [h] at z
        exact .inr ⟨l, ps, by rw [q]; exact z.symm⟩
      · obtain ⟨_, ps', z⟩ := z
        exact .inr ⟨l, ps', by rw [q, z]⟩
theorem Ext.trans (a : Ext lam r r1 H H1) (b : Ext lam r1 r2 H1 H2) : Ext lam r r2 H H2 where
  pre := by
    have mu1 := b.mu
    have bk : ∀ {x : Addr}, Nt lam H1 x → Nt lam H x := fun {x} h => a.back (fun y hy => by
      obtain ⟨n1, rfl, _⟩ := a.pre
      exact mu1 y (hy.elim (fun z => .inl (List.mem_append_left _ z)) .inr)) h
    obtain ⟨n1, rfl, h1⟩ := a.pre
    obtain ⟨n2, rfl, h2⟩ := b.pre
    refine ⟨n1 ++ n2, by rw [List.append_assoc], fun x hx => ?_⟩
    rcases List.mem_append.mp hx with hx | hx
    · exact h1 x hx
    · exact bk (h2 x hx)
  keep := fun x o e hx => by
    rcases a.keep x o e hx with q | q
    · by_cases hm : x ∈ r1.st
      · obtain ⟨n1, rfl, h1⟩ := a.pre
        rcases List.mem_append.mp hm with hm | hm
        · exact absurd hm hx
        · exact .inr ((h1 x hm).clash e)
      · exact b.keep x o q hm
    · exact .inr q
  dom := fun x e => a.back (fun y hy => by
      obtain ⟨n1, rfl, _⟩ := a.pre
      exact b.mu y (hy.elim (fun z => .inl (List.mem_append_left _ z)) .inr)) (b.dom x e)
  mu := a.mu
  lock := fun x od u e => b.lock x od u (a.lock x od u e)
theorem Ext.refl (mu : ∀ a, r.yes a → MutL (H a)) : Ext lam r r H H := ⟨⟨[], by simp, by simp⟩, fun _ _ e _ => .inl e, fun _ e => .inl e, mu, fun _ _ _ e => e⟩
theorem Nt.up {a : Addr} (h : Nt false H a) : Nt lam H a := h.elim .inl fun q => absurd q.1 (by decide)
theorem Ext.up (a : Ext false r r1 H H1) : Ext lam r r1 H H1 := ⟨by obtain ⟨n, e, h⟩ := a.pre; exact ⟨n, e, fun x hx => (h x hx).up⟩, fun x o e hx => (a.keep x o e hx).elim .inl fun q => absurd q.1 (by decide), fun x e => (a.dom x e).up, a.mu, a.lock⟩
theorem Ext.new {p : Addr} {o : HO} (mu : ∀ a, r.yes a → MutL (H a)) (hp : H p = none) : Ext lam r r H (upd H p o) := by
  refine ⟨⟨[], by simp, by simp⟩, fun x u e _ => .inl ?_, fun x e => .inl ?_, mu, fun x od u e => by rw [upd_ne (ne_of_none e hp)]; exact e⟩
  · rw [upd_ne (ne_of_none e hp)]; exact e
  · by_cases hx : x = p
    · rw [hx, upd_same] at e; cases e
    · rw [upd_ne hx] at e; exact e
/-- a live one more -/
theorem Ext.newL {p : Addr} {o : HO} (mu : ∀ a, r.yes a → MutL (H a)) (hp : H p = none) : Ext lam r ⟨r.st ++ [p], r.hid⟩ H (upd H p o) := by
  have q := Ext.new (lam := lam) (o := o) mu hp
  exact ⟨⟨[p], rfl, fun a ha => by have e : a = p := by simpa using ha
                                   rw [e]; exact .inl hp⟩, q.keep, q.dom, mu, q.lock⟩
/-- a live one is changed -/
theorem Ext.put {p : Addr} {o : HO} (mu : ∀ a, r.yes a → MutL (H a)) (hp : p ∈ r.st) (nf : NoF H p) : Ext lam r r H (upd H p o) := by
  refine ⟨⟨[], by simp, by simp⟩, fun x u e hx => .inl ?_, fun x e => .inl ?_, mu, fun x od u e => by rw [upd_ne (fun (z : x = p) => nf od u (by rw [← z]; exact e))]; exact e⟩
  · rw [upd_ne (fun z => hx (by rw [z]; exact hp))]; exact e
  · by_cases hx : x = p
    · rw [hx, upd_same] at e; cases e
    · rw [upd_ne hx] at e; exact e
theorem Ext.sqf (e : Ext lam r r1 H H1) {a : Addr} {xs : List V} (h : SqF K r H a xs) : SqF K r1 H1 a xs := by
  rcases h with ⟨h, hn⟩ | ⟨o, h⟩ | h
  · refine .inl ⟨?_, ?_⟩
    · rcases e.keep a _ h hn.1 with q | ⟨_, ps, q⟩
      · exact q
      · cases q
    · obtain ⟨n, rfl, hf⟩ := e.pre
      refine ⟨fun hm => ?_, hn.2⟩
      rcases List.mem_append.mp hm with hm | hm
      · exact hn.1 hm
      · obtain ⟨_, ps, z⟩ := (hf a hm).clash h
        cases z
  · refine .inr (.inl ⟨o, ?_⟩)
    rcases e.keep a _ h (fun hm => by have := e.mu a (.inl hm); rw [h] at this; exact this) with q | ⟨_, ps, q⟩
    · exact q
    · cases q
  · exact .inr (.inr h)
theorem Ext.sqt (e : Ext lam r r1 H H1) {a : Addr} {xs : List V} (h : SqT K H a xs) : SqT K H1 a xs := by
  rcases h with (h | ⟨o, h⟩) | h
  · rcases e.keep a _ h (fun hm => by have := e.mu a (.inl hm); rw [h] at this; exact this) with q | ⟨_, ps, q⟩
    · exact .inl (.inl q)
    · cases q
  · rcases e.keep a _ h (fun hm => by have := e.mu a (.inl hm); rw [h] at this; exact this) with q | ⟨_, ps, q⟩
    · exact .inl (.inr ⟨o, q⟩)
    · cases q
  · exact .inr h
theorem Rp.ext {v : V} {d : PyData} (h : Rp K r H v d) (e : Ext lam r r1 H H1) : Rp K r1 H1 v d := h.map (fun _ _ q => e.sqf q) fun _ _ q => e.sqt q
theorem RpAll.ext {vs : List V} {ds : List PyData} (h : RpAll K r H vs ds) (e : Ext lam r r1 H H1) : RpAll K r1 H1 vs ds := h.map (fun _ _ q => e.sqf q) fun _ _ q => e.sqt q
end
/-- a dict's entries and what they are read as -/
inductive RpKV (K : PySem.W.Frag) (r : Lv) (H : Hp) : List (NestedKey × Addr × V) → List (NK × PyData) → Prop
  | nil : RpKV K r H [] []
  | cons {k : NK} {b : Addr} {v : V} {d : PyData} {ps : List (NestedKey × Addr × V)} {qs : List (NK × PyData)} : k.isBool = false ∧ (∀ ks, k = .tup ks → Rp K r H (.ref b) k.data ∧ k.toN.depth ≤ 8) → Rp K r H v d → RpKV K r H ps qs → RpKV K r H ((k.toN, b, v) :: ps) ((k, d) :: qs)
theorem RpKV.map {K : PySem.W.Frag} {r r' : Lv} {H H' : Hp} (hl : ∀ a xs, SqF K r H a xs → SqF K r' H' a xs) (ht : ∀ a xs, SqT K H a xs → SqT K H' a xs) {ps : List (NestedKey × Addr × V)} {qs : List (NK × PyData)} (h : RpKV K r H ps qs) : RpKV K r' H' ps qs := by
  induction h with
  | nil => exact .nil
  | cons h1 h2 _ ih => exact .cons ⟨h1.1, fun ks e => ⟨(h1.2 ks e).1.map hl ht, (h1.2 ks e).2⟩⟩ (h2.map hl ht) ih
theorem RpKV.length {K : PySem.W.Frag} {r : Lv} {H : Hp} {ps : List (NestedKey × Addr × V)} {qs : List (NK × PyData)} (h : RpKV K r H ps qs) : ps.length = qs.length := by
  induction h with
  | nil => rfl
  | cons _ _ _ ih => simp [ih]
/-- a value, but a def -/
def Rv (K : PySem.W.Frag) (r : Lv) (H : Hp) : V → Vl → Prop
  | v, .d x => Rp K r H v x
  | v, .m n => ∃ a, r.st[n]? = some a ∧ v = .ref a
  | _, .f _ => False
  | _, .r _ _ => False
  | v, .p x y => ∃ a u1 u2, SqT K H a [u1, u2] ∧ Rv K r H u1 x ∧ Rv K r H u2 y ∧ v = .ref a
theorem Rv.map {K : PySem.W.Frag} {r r' : Lv} {H H' : Hp} (hl : ∀ a xs, SqF K r H a xs → SqF K r' H' a xs) (ht : ∀ a xs, SqT K H a xs → SqT K H' a xs) (hm : ∀ (n : Nat) (a : Addr), r.st[n]? = some a → r'.st[n]? = some a) : ∀ {w : Vl} {v : V}, Rv K r H v w → Rv K r' H' v w
  | .d x, v, h => Rp.map hl ht (show Rp K r H v x from h)
  | .m n, v, ⟨a, h, q⟩ => ⟨a, hm _ _ h, q⟩
  | .p x y, v, ⟨a, u1, u2, h, h1, h2, q⟩ => ⟨a, u1, u2, ht _ _ h, Rv.map hl ht hm h1, Rv.map hl ht hm h2, q⟩
inductive RvAll (K : PySem.W.Frag) (r : Lv) (H : Hp) : List V → List Vl → Prop
  | nil : RvAll K r H [] []
  | cons {v : V} {vs : List V} {w : Vl} {ws : List Vl} : Rv K r H v w → RvAll K r H vs ws → RvAll K r H (v :: vs) (w :: ws)
theorem RvAll.map {K : PySem.W.Frag} {r r' : Lv} {H H' : Hp} (hl : ∀ a xs, SqF K r H a xs → SqF K r' H' a xs) (ht : ∀ a xs, SqT K H a xs → SqT K H' a xs) (hm : ∀ (n : Nat) (a : Addr), r.st[n]? = some a → r'.st[n]? = some a) {vs : List V} {ws : List Vl} (h : RvAll K r H vs ws) : RvAll K r' H' vs ws := by
  induction h with
  | nil => exact .nil
  | cons h _ ih => exact .cons (h.map hl ht hm) ih
/-- a dict's entries, of any values -/
inductive RvKV (K : PySem.W.Frag) (r : Lv) (H : Hp) : List (NestedKey × Addr × V) → List (NestedKey × Vl) → Prop
  | nil : RvKV K r H [] []
  | cons {k : NestedKey} {b : Addr} {v : V} {d : Vl} {ps : List (NestedKey × Addr × V)} {qs : List (NestedKey × Vl)} : (∀ ks, k = .tup ks → Rp K r H (.ref b) k.data ∧ k.depth ≤ 8) → Rv K r H v d → RvKV K r H ps qs → RvKV K r H ((k, b, v) :: ps) ((k, d) :: qs)
theorem RvKV.map {K : PySem.W.Frag} {r r' : Lv} {H H' : Hp} (hl : ∀ a xs, SqF K r H a xs → SqF K r' H' a xs) (ht : ∀ a xs, SqT K H a xs → SqT K H' a xs) (hm : ∀ (n : Nat) (a : Addr), r.st[n]? = some a → r'.st[n]? = some a) {ps : List (NestedKey × Addr × V)} {qs : List (NestedKey × Vl)} (h : RvKV K r H ps qs) : RvKV K r' H' ps qs := by
  induction h with
  | nil => exact .nil
  | cons h1 h2 _ ih => exact .cons (fun ks e => ⟨(h1 ks e).1.map hl ht, (h1 ks e).2⟩) (h2.map hl ht hm) ih
/-- an instance's attributes by name, in order -/
inductive RvFs (K : PySem.W.Frag) (r : Lv) (H : Hp) : List (Str × V) → List (Str × Vl) → Prop
  | nil : RvFs K r H [] []
  | cons {x : Str} {v : V} {w : Vl} {fs : List (Str × V)} {gs : List (Str × Vl)} : Rv K r H v w → RvFs K r H fs gs → RvFs K r H ((x, v) :: fs) ((x, w) :: gs)
theorem RvFs.map {K : PySem.W.Frag} {r r' : Lv} {H H' : Hp} (hl : ∀ a xs, SqF K r H a xs → SqF K r' H' a xs) (ht : ∀ a xs, SqT K H a xs → SqT K H' a xs) (hm : ∀ (n : Nat) (a : Addr), r.st[n]? = some a → r'.st[n]? = some a) {fs : List (Str × V)} {gs : List (Str × Vl)} (h : RvFs K r H fs gs) : RvFs K r' H' fs gs := by
  induction h with
  | nil => exact .nil
  | cons h _ ih => exact .cons (h.map hl ht hm) ih
/-- at a stands a mutable object -/
def MoR (wd : Wg) (K : PySem.W.Frag) (r : Lv) (H : Hp) (a : Addr) : MO → Prop
  | .l xs => ∃ vs, H a = some (.lst vs) ∧ RpAll K r H vs xs
  | .k kvs => ∃ ps, H a = some (HoD wd.w a ps) ∧ RpKV K r H ps kvs
  | .q ws => ∃ vs, H a = some (.lst vs) ∧ RvAll K r H vs ws
  | .w kvs => ∃ ps, H a = some (HoD wd.w a ps) ∧ RvKV K r H ps kvs
  | .o c gs => ∃ C dx fs, wd.mg c = some (.ref C) ∧ H a = some (.ins C dx fs) ∧ RvFs K r H fs gs
  | .z kvs => ∃ ps od, H a = some (.frz od (HoD wd.w a ps)) ∧ RpKV K r H ps kvs
theorem MoR.mut {wd : Wg} {K : PySem.W.Frag} {r : Lv} {H : Hp} {a : Addr} {o : MO} (h : MoR wd K r H a o) : MutL (H a) := by
  cases o with
  | l xs => obtain ⟨vs, e, _⟩ := h; rw [e]; exact True.intro
  | k kvs => obtain ⟨ps, e, _⟩ := h; rw [e]; exact ⟨wd.w, a, ps, rfl⟩
  | q xs => obtain ⟨vs, e, _⟩ := h; rw [e]; exact True.intro
  | w kvs => obtain ⟨ps, e, _⟩ := h; rw [e]; exact ⟨wd.w, a, ps, rfl⟩
  | o c gs => obtain ⟨C, dx, fs, _, e, _⟩ := h; rw [e]; exact True.intro
  | z kvs => obtain ⟨ps, od, e, _⟩ := h; rw [e]; exact ⟨wd.w, a, ps, rfl⟩
theorem MoR.map {wd : Wg} {K : PySem.W.Frag} {r r' : Lv} {H H' : Hp} {a : Addr} {o : MO} (h : MoR wd K r H a o) (ho : ∀ u, H a = some u → H' a = some u) (hl : ∀ a xs, SqF K r H a xs → SqF K r' H' a xs) (ht : ∀ a xs, SqT K H a xs → SqT K H' a xs) (hm : ∀ (n : Nat) (a : Addr), r.st[n]? = some a → r'.st[n]? = some a) : MoR wd K r' H' a o := by
  cases o with
  | l xs => obtain ⟨vs, e, q⟩ := h; exact ⟨vs, ho _ e, q.map hl ht⟩
  | k kvs => obtain ⟨ps, e, q⟩ := h; exact ⟨ps, ho _ e, q.map hl ht⟩
  | q xs => obtain ⟨vs, e, q⟩ := h; exact ⟨vs, ho _ e, q.map hl ht hm⟩
  | w kvs => obtain ⟨ps, e, q⟩ := h; exact ⟨ps, ho _ e, q.map hl ht hm⟩
  | o c gs => obtain ⟨C, dx, fs, m, e, q⟩ := h; exact ⟨C, dx, fs, m, ho _ e, q.map hl ht hm⟩
  | z kvs => obtain ⟨ps, od, e, q⟩ := h; exact ⟨ps, od, ho _ e, q.map hl ht⟩
theorem Ext.stk {lam : Bool} {r r1 : Lv} {H H1 : Hp} (e : Ext lam r r1 H H1) (n : Nat) (a : Addr) (h : r.st[n]? = some a) : r1.st[n]? = some a := by
  obtain ⟨l, rfl, _⟩ := e.pre
  rw [List.getElem?_append_left (List.getElem?_eq_some_iff.mp h).1]; exact h
theorem Rv.ext {K : PySem.W.Frag} {lam : Bool} {r r1 : Lv} {H H1 : Hp} {v : V} {w : Vl} (h : Rv K r H v w) (e : Ext lam r r1 H H1) : Rv K r1 H1 v w := h.map (fun _ _ q => e.sqf q) (fun _ _ q => e.sqt q) e.stk
theorem RvAll.ext {K : PySem.W.Frag} {lam : Bool} {r r1 : Lv} {H H1 : Hp} {v : List V} {w : List Vl} (h : RvAll K r H v w) (e : Ext lam r r1 H H1) : RvAll K r1 H1 v w := h.map (fun _ _ q => e.sqf q) (fun _ _ q => e.sqt q) e.stk
theorem RvKV.ext {K : PySem.W.Frag} {lam : Bool} {r r1 : Lv} {H H1 : Hp} {v : List (NestedKey × Addr × V)} {w : List (NestedKey × Vl)} (h : RvKV K r H v w) (e : Ext lam r r1 H H1) : RvKV K r1 H1 v w := h.map (fun _ _ q => e.sqf q) (fun _ _ q => e.sqt q) e.stk
theorem RvFs.ext {K : PySem.W.Frag} {lam : Bool} {r r1 : Lv} {H H1 : Hp} {v : List (Str × V)} {w : List (Str × Vl)} (h : RvFs K r H v w) (e : Ext lam r r1 H H1) : RvFs K r1 H1 v w := h.map (fun _ _ q => e.sqf q) (fun _ _ q => e.sqt q) e.stk
/-- the store -/
structure StoRel (wd : Wg) (K : PySem.W.Frag) (r : Lv) (H : Hp) (S : Sto) : Prop where
  nd : r.st.Nodup
  len : r.st.length = S.length
  ob : ∀ (n : Nat) (a : Addr) (o : MO), r.st[n]? = some a → S[n]? = some o → MoR wd K r H a o
  hid : ∀ a ∈ r.hid, MutL (H a)
  apart : ∀ a ∈ r.hid, a ∉ r.st
section
variable {wd : Wg} {K : PySem.W.Frag} {lam : Bool} {r r1 r2 : Lv} {H H1 H2 : Hp} {S S' : Sto}
theorem StoRel.at_ (s : StoRel wd K r H S) (n : Nat) (a : Addr) (xs : List PyData) (h1 : r.st[n]? = some a) (h2 : S[n]? = some (.l xs)) : ∃ vs, H a = some (.lst vs) ∧ RpAll K r H vs xs := s.ob n a _ h1 h2
theorem StoRel.mu (s : StoRel wd K r H S) : ∀ a, r.yes a → MutL (H a) := fun a ha => by
  rcases ha with ha | ha
  · obtain ⟨n, hn, e⟩ := List.mem_iff_getElem.mp ha
    have h2 : n < S.length := by rw [← s.len]; exact hn
    exact (s.ob n a _ (by rw [List.getElem?_eq_getElem hn, e]) (List.getElem?_eq_getElem h2)).mut
  · exact s.hid a ha
theorem StoRel.refl (s : StoRel wd K r H S) : Ext lam r r H H := Ext.refl s.mu
theorem StoRel.no (s : StoRel wd K r H S) {p : Addr} (hp : H p = none) : r.no p := by
  refine ⟨fun hm => ?_, fun hm => ?_⟩
  · have z := s.mu p (.inl hm)
    rw [hp] at z; exact z
  · have z := s.mu p (.inr hm)
    rw [hp] at z; exact z
theorem StoRel.new {p : Addr} {o : HO} (s : StoRel wd K r H S) (hp : H p = none) : StoRel wd K r (upd H p o) S := by
  have E : Ext false r r H (upd H p o) := Ext.new s.mu hp
  exact ⟨s.nd, s.len, fun n a m h1 h2 => (s.ob n a m h1 h2).map (fun u e => by rw [upd_ne (ne_of_none e hp)]; exact e) (fun _ _ q => E.sqf q) (fun _ _ q => E.sqt q) E.stk,
    fun a ha => by rw [upd_ne (fun (z : a = p) => (s.no hp).2 (z ▸ ha))]; exact s.hid a ha, s.apart⟩
theorem StoRel.newO {p : Addr} {o : HO} {m : MO} (s : StoRel wd K r H S) (hp : H p = none) (h : ∀ r' H', Ext false r r' H H' → H' p = some o → MoR wd K r' H' p m) : StoRel wd K ⟨r.st ++ [p], r.hid⟩ (upd H p o) (S ++ [m]) := by
  have e := Ext.newL (lam := false) (o := o) s.mu hp
  refine ⟨?_, by simp [s.len], fun n a y h1 h2 => ?_, fun a ha => ?_, fun a ha hm => ?_⟩
  · show (r.st ++ [p]).Nodup
    rw [List.nodup_append]
    refine ⟨s.nd, by simp, fun a ha b hb q => ?_⟩
    have hb' : b = p := by simpa using hb
    subst hb'; subst q
    exact (s.no hp).1 ha
  · have h1 : (r.st ++ [p])[n]? = some a := h1
    by_cases hn : n < r.st.length
    · rw [List.getElem?_append_left hn] at h1
      rw [List.getElem?_append_left (by rw [← s.len]; exact hn)] at h2
      exact (s.ob n a y h1 h2).map (fun u q => by rw [upd_ne (ne_of_none q hp)]; exact q) (fun _ _ q => e.sqf q) (fun _ _ q => e.sqt q) e.stk
    · have hn2 : n = r.st.length := by
        have := (List.getElem?_eq_some_iff.mp h1).1
        simp at this; omega
      subst hn2
      rw [List.getElem?_append_right (Nat.le_refl _)] at h1
      rw [s.len, List.getElem?_append_right (Nat.le_refl _)] at h2
      simp at h1 h2
      subst h1; subst h2
      exact h _ _ e upd_same
  · rw [upd_ne (fun (z : a = p) => (s.no hp).2 (z ▸ ha))]; exact s.hid a ha
  · have hm : a ∈ r.st ++ [p] := hm
    rcases List.mem_append.mp hm with hm | hm
    · exact s.apart a ha hm
    · have e : a = p := by simpa using hm
      exact (s.no hp).2 (e ▸ ha)
theorem StoRel.newL {p : Addr} {vs : List V} {xs : List PyData} (s : StoRel wd K r H S) (hp : H p = none) (h : RpAll K r H vs xs) : StoRel wd K ⟨r.st ++ [p], r.hid⟩ (upd H p (.lst vs)) (S ++ [.l xs]) :=
  s.newO hp fun r' H' E e => ⟨vs, e, h.ext E⟩
theorem StoRel.putO {n : Nat} {p : Addr} {o : HO} {m : MO} (s : StoRel wd K r H S) (hp : r.st[n]? = some p) (nf : NoF H p) (h : ∀ H', Ext false r r H H' → H' p = some o → MoR wd K r H' p m) : StoRel wd K r (upd H p o) (S.set n m) := by
  have hm : p ∈ r.st := List.mem_of_getElem? hp
  have e := Ext.put (lam := false) (o := o) s.mu hm nf
  obtain ⟨hlt, hget⟩ := List.getElem?_eq_some_iff.mp hp
  refine ⟨s.nd, by simp [s.len], fun i a y h1 h2 => ?_, fun a ha => ?_, s.apart⟩
  · by_cases hn : i = n
    · subst hn
      rw [hp] at h1; cases h1
      rw [List.getElem?_set_self (by rw [← s.len]; exact hlt)] at h2
      cases h2
      exact h _ e upd_same
    · rw [List.getElem?_set_ne (Ne.symm hn)] at h2
      refine (s.ob i a y h1 h2).map (fun u q => ?_) (fun _ _ q => e.sqf q) (fun _ _ q => e.sqt q) e.stk
      rw [upd_ne ?_]
      · exact q
      · rintro rfl
        obtain ⟨hlt2, hget2⟩ := List.getElem?_eq_some_iff.mp h1
        exact hn ((List.getElem_inj s.nd).mp (hget2.trans hget.symm))
  · rw [upd_ne (fun (z : a = p) => s.apart a ha (z ▸ hm))]; exact s.hid a ha
theorem StoRel.put {n : Nat} {p : Addr} {vs : List V} {xs : List PyData} (s : StoRel wd K r H S) (hp : r.st[n]? = some p) (nf : NoF H p) (h : RpAll K r H vs xs) : StoRel wd K r (upd H p (.lst vs)) (S.set n (.l xs)) :=
  s.putO hp nf fun H' E e => ⟨vs, e, h.ext E⟩
/-! a list is hidden while it is filled -/
def Lv.hide (r : Lv) (D : Addr) : Lv := ⟨r.st, D :: r.hid⟩
theorem sqf_hide {D a : Addr} {xs : List V} (hb : SqF K r H a xs) (hD : H D = none) : SqF K (r.hide D) (upd H D (.lst [])) a xs := by
  rcases hb with ⟨hb, hn⟩ | ⟨o, hb⟩ | hb
  · refine .inl ⟨by rw [upd_ne (ne_of_none hb hD)]; exact hb, hn.1, fun hm => ?_⟩
    have hm : a ∈ D :: r.hid := hm
    rcases List.mem_cons.mp hm with z | z
    · rw [z, hD] at hb; cases hb
    · exact hn.2 z
  · exact .inr (.inl ⟨o, by rw [upd_ne (ne_of_none hb hD)]; exact hb⟩)
  · exact .inr (.inr hb)
theorem StoRel.hide {D : Addr} (s : StoRel wd K r H S) (hD : H D = none) : StoRel wd K (r.hide D) (upd H D (.lst [])) S := by
  have e : Ext false r r H (upd H D (.lst [])) := Ext.new s.mu hD
  refine ⟨s.nd, s.len, fun n a m h1 h2 => (s.ob n a m h1 h2).map (fun u q => by rw [upd_ne (ne_of_none q hD)]; exact q) (fun _ _ q => sqf_hide q hD) (fun _ _ q => e.sqt q) fun _ _ q => q, fun a ha => ?_, fun a ha => ?_⟩
  · have ha : a ∈ D :: r.hid := ha
    by_cases z : a = D
    · rw [z, upd_same]; exact True.intro
    · rw [upd_ne z]
      exact s.hid a ((List.mem_cons.mp ha).resolve_left z)
  · have ha : a ∈ D :: r.hid := ha
    rcases List.mem_cons.mp ha with z | z
    · rw [z]; exact (s.no hD).1
    · exact s.apart a z
theorem Rp.hide {D : Addr} {v : V} {d : PyData} (h : Rp K r H v d) (hD : H D = none) : Rp K (r.hide D) (upd H D (.lst [])) v d := by
  refine h.map (fun b ys hb => ?_) fun b ys hb => ?_
  · rcases hb with ⟨hb, hn⟩ | ⟨o, hb⟩ | hb
    · refine .inl ⟨by rw [upd_ne (ne_of_none hb hD)]; exact hb, hn.1, fun hm => ?_⟩
      have hm : b ∈ D :: r.hid := hm
      rcases List.mem_cons.mp hm with z | z
      · rw [z, hD] at hb; cases hb
      · exact hn.2 z
    · exact .inr (.inl ⟨o, by rw [upd_ne (ne_of_none hb hD)]; exact hb⟩)
    · exact .inr (.inr hb)
  · rcases hb with (hb | ⟨o, hb⟩) | hb
    · exact .inl (.inl (by rw [upd_ne (ne_of_none hb hD)]; exact hb))
    · exact .inl (.inr ⟨o, by rw [upd_ne (ne_of_none hb hD)]; exact hb⟩)
    · exact .inr hb
theorem Rv.hide {D : Addr} {v : V} {w : Vl} (h : Rv K r H v w) (hD : H D = none) : Rv K (r.hide D) (upd H D (.lst [])) v w := by
  refine h.map (fun b ys hb => sqf_hide hb hD) (fun b ys hb => ?_) fun _ _ q => q
  rcases hb with (hb | ⟨o, hb⟩) | hb
  · exact .inl (.inl (by rw [upd_ne (ne_of_none hb hD)]; exact hb))
  · exact .inl (.inr ⟨o, by rw [upd_ne (ne_of_none hb hD)]; exact hb⟩)
  · exact .inr hb
theorem RpAll.show {D : Addr} {vs : List V} {ds : List PyData} (h : RpAll K (r.hide D) H vs ds) : RpAll K r H vs ds := h.map (fun b ys hb => by
  rcases hb with ⟨hb, hn⟩ | hb
  · exact .inl ⟨hb, hn.1, fun hm => hn.2 (List.mem_cons_of_mem _ hm)⟩
  · exact .inr hb) fun b ys hb => hb
theorem sqf_show {D b : Addr} {ys : List V} (hb : SqF K (r.hide D) H b ys) : SqF K r H b ys := by
  rcases hb with ⟨hb, hn⟩ | hb
  · exact .inl ⟨hb, hn.1, fun hm => hn.2 (List.mem_cons_of_mem _ hm)⟩
  · exact .inr hb
theorem StoRel.show {D : Addr} (s : StoRel wd K (r.hide D) H S) : StoRel wd K r H S :=
  ⟨s.nd, s.len, fun n a m h1 h2 => (s.ob n a m h1 h2).map (fun _ q => q) (fun _ _ q => sqf_show q) (fun _ _ q => q) fun _ _ q => q, fun a ha => s.hid a (List.mem_cons_of_mem _ ha), fun a ha => s.apart a (List.mem_cons_of_mem _ ha)⟩
/-- the hidden list grows -/
theorem sqf_putH {D b : Addr} {xs ys : List V} (mu : ∀ a, r.yes a → MutL (H a)) (hD : D ∈ r.hid) (hb : SqF K r H b ys) : SqF K r (upd H D (.lst xs)) b ys := by
  have hl := mu D (.inr hD)
  rcases hb with ⟨hb, hn⟩ | ⟨o, hb⟩ | hb
  · exact .inl ⟨by rw [upd_ne (fun (z : b = D) => hn.2 (z ▸ hD))]; exact hb, hn⟩
  · refine .inr (.inl ⟨o, ?_⟩)
    rw [upd_ne (fun z => by rw [← z, hb] at hl; exact hl)]; exact hb
  · exact .inr (.inr hb)
theorem sqt_putH {D b : Addr} {xs ys : List V} (mu : ∀ a, r.yes a → MutL (H a)) (hD : D ∈ r.hid) (hb : SqT K H b ys) : SqT K (upd H D (.lst xs)) b ys := by
  have hl := mu D (.inr hD)
  rcases hb with (hb | ⟨o, hb⟩) | hb
  · exact .inl (.inl (by rw [upd_ne (fun z => by rw [← z, hb] at hl; exact hl)]; exact hb))
  · exact .inl (.inr ⟨o, by rw [upd_ne (fun z => by rw [← z, hb] at hl; exact hl)]; exact hb⟩)
  · exact .inr hb
theorem Ext.putH {D : Addr} {xs : List V} (mu : ∀ a, r.yes a → MutL (H a)) (hD : D ∈ r.hid) : ∀ {vs : List V} {ds : List PyData}, RpAll K r H vs ds → RpAll K r (upd H D (.lst xs)) vs ds := fun {vs ds} h =>
  h.map (fun b ys hb => sqf_putH mu hD hb) fun b ys hb => sqt_putH mu hD hb
theorem StoRel.putH {D : Addr} {xs : List V} (s : StoRel wd K r H S) (hD : D ∈ r.hid) : StoRel wd K r (upd H D (.lst xs)) S :=
  ⟨s.nd, s.len, fun n a m h1 h2 => (s.ob n a m h1 h2).map (fun u q => by rw [upd_ne (fun (z : a = D) => s.apart D hD (z ▸ List.mem_of_getElem? h1))]; exact q) (fun _ _ q => sqf_putH s.mu hD q) (fun _ _ q => sqt_putH s.mu hD q) fun _ _ q => q, fun a ha => by
    by_cases z : a = D
    · rw [z, upd_same]; exact True.intro
    · rw [upd_ne z]; exact s.hid a ha, s.apart⟩
/-- from ahead of the hiding to a state within -/
theorem Ext.under {D : Addr} {r' : Lv} {r0 : Lv} {H0 : Hp} (a : Ext lam r0 r H0 H) (b : Ext lam (r.hide D) r' H H1) : ∃ r1, r' = r1.hide D ∧ Ext lam r0 r1 H0 H1 := by
  have bk : ∀ {x : Addr}, Nt lam H x → Nt lam H0 x := fun {x} h => a.back (fun y hy => by
    have mu := b.mu y
    obtain ⟨n1, rfl, _⟩ := a.pre
    exact mu (hy.elim (fun z => .inl (List.mem_append_left _ z)) fun z => .inr (List.mem_cons_of_mem _ z))) h
  obtain ⟨n2, rfl, h2⟩ := b.pre
  refine ⟨⟨r.st ++ n2, r.hid⟩, rfl, ?_⟩
  obtain ⟨n1, rfl, h1⟩ := a.pre
  refine ⟨⟨n1 ++ n2, by rw [List.append_assoc], fun x hx => ?_⟩, fun x o e hx => ?_, fun x e => bk (b.dom x e), a.mu, fun x od u e => b.lock x od u (a.lock x od u e)⟩
  · rcases List.mem_append.mp hx with hx | hx
    · exact h1 x hx
    · exact bk (h2 x hx)
  · rcases a.keep x o e hx with q | q
    · by_cases hm : x ∈ r0.st ++ n1
      · rcases List.mem_append.mp hm with hm | hm
        · exact absurd hm hx
        · exact .inr ((h1 x hm).clash e)
      · exact b.keep x o q hm
    · exact .inr q
theorem Ext.fresh {D : Addr} {o : HO} {r0 : Lv} {H0 : Hp} (a : Ext lam r0 r H0 H) (hD : H0 D = none) : Ext lam r0 r H0 (upd H D o) := by
  refine ⟨a.pre, fun x u e hx => ?_, fun x e => ?_, a.mu, fun x od u e => by rw [upd_ne (ne_of_none e hD)]; exact a.lock x od u e⟩
  · rw [upd_ne (ne_of_none e hD)]; exact a.keep x u e hx
  · by_cases z : x = D
    · rw [z, upd_same] at e; cases e
    · rw [upd_ne z] at e; exact a.dom x e
end

/-! ### values, slots, runs -/
structure Cf where
  T : List (Addr × Str) := []
  lam : Bool := false
def Rw (K : PySem.W.Frag) (mg : Str → Option Value) (r : Lv) (H : Hp) : V → Vl → Prop
  | v, .d x => Rp K r H v x
  | v, .m n => ∃ a, r.st[n]? = some a ∧ v = .ref a
  | v, .f x => ∃ a, mg x = some (.ref a) ∧ v = .ref a
  | v, .r lo hi => ∃ a, H a = some (.rng lo hi) ∧ v = .ref a
  | v, .p x y => Rv K r H v (.p x y)
inductive RwAll (K : PySem.W.Frag) (mg : Str → Option Value) (r : Lv) (H : Hp) : List V → List Vl → Prop
  | nil : RwAll K mg r H [] []
  | cons {v : V} {vs : List V} {w : Vl} {ws : List Vl} : Rw K mg r H v w → RwAll K mg r H vs ws → RwAll K mg r H (v :: vs) (w :: ws)
def EvR (K : PySem.W.Frag) (mg : Str → Option Value) (r : Lv) (σ : L2.St) (H : Hp) (ev : Ev) : Prop :=
  ∀ (i : Nat) (w : Vl), ev[i]? = some (some w) → ∃ v, σ[i]? = some (some v) ∧ Rw K mg r H v w
section
variable {K : PySem.W.Frag} {mg : Str → Option Value} {lam : Bool} {r r1 r2 : Lv} {H H1 H2 : Hp} {S S' : Sto} {σ : L2.St} {ev : Ev}
theorem Rw.ext {v : V} : ∀ {w : Vl}, Rw K mg r H v w → Ext lam r r1 H H1 → Rw K mg r1 H1 v w
  | .d x, h, e => Rp.ext (show Rp K r H v x from h) e
  | .m n, ⟨a, h, q⟩, e => by
    obtain ⟨l, rfl, _⟩ := e.pre
    exact ⟨a, by rw [List.getElem?_append_left (List.getElem?_eq_some_iff.mp h).1]; exact h, q⟩
  | .f x, h, _ => h
  | .r lo hi, ⟨a, h, q⟩, e => by
    refine ⟨a, ?_, q⟩
    rcases e.keep a _ h (fun hm => by have := e.mu a (.inl hm); rw [h] at this; exact this) with z | ⟨_, ps, z⟩
    · exact z
    · cases z
  | .p x y, h, e => Rv.ext (show Rv K r H v (.p x y) from h) e
theorem Rv.rw {v : V} : ∀ {w : Vl}, Rv K r H v w → Rw K mg r H v w
  | .d _, h => h
  | .m _, h => h
  | .p _ _, h => h
theorem RwAll.ext : ∀ {vs : List V} {ws : List Vl}, RwAll K mg r H vs ws → Ext lam r r1 H H1 → RwAll K mg r1 H1 vs ws
  | _, _, .nil, _ => .nil
  | _, _, .cons h t, e => .cons (h.ext e) (RwAll.ext t e)
theorem RwAll.length : ∀ {vs : List V} {ws : List Vl}, RwAll K mg r H vs ws → vs.length = ws.length
  | _, _, .nil => rfl
  | _, _, .cons _ t => by simp [RwAll.length t]
theorem EvR.ext (h : EvR K mg r σ H ev) (e : Ext lam r r1 H H1) : EvR K mg r1 σ H1 ev := fun i w q => by
  obtain ⟨v, h1, h2⟩ := h i w q
  exact ⟨v, h1, h2.ext e⟩
theorem EvR.set {i : Nat} {v : V} {w : Vl} (h : EvR K mg r σ H ev) (hw : Rw K mg r H v w) (hl : i < σ.length) : EvR K mg r (σ.set i (some v)) H (ev.set i (some w)) := fun j u q => by
  by_cases hj : i = j
  · subst hj
    have hi : i < ev.length := by
      have := (List.getElem?_eq_some_iff.mp q).1
      simpa using this
    rw [List.getElem?_set_self hi] at q
    cases q
    exact ⟨v, by rw [List.getElem?_set_self hl], hw⟩
  · rw [List.getElem?_set_ne hj] at q
    obtain ⟨v', h1, h2⟩ := h j u q
    exact ⟨v', by rw [List.getElem?_set_ne hj]; exact h1, h2⟩
theorem tabs_ext {T : List (Addr × Str)} (e : Ext false r r1 H H1) (t : Tabs T H) : Tabs T H1 := by
  have kp : ∀ a o, H a = some o → ¬ MutL (some o) → H1 a = some o := fun a o h n => by
    rcases e.keep a o h (fun hm => n (by rw [← h]; exact e.mu a (.inl hm))) with q | q
    · exact q
    · exact absurd q.1 (by decide)
  intro p hp
  obtain ⟨ps, h1, h2, h3⟩ := t p hp
  refine ⟨ps, kp _ _ h1 (fun z => z), h2, fun pos cv hc => ?_⟩
  obtain ⟨c, e1, e2⟩ := h3 pos cv hc
  refine ⟨c, e1, kp _ _ e2 fun z => ?_⟩
  obtain ⟨wd, a, kvs, z⟩ := (show ∃ wd a kvs, _ = DForm wd a kvs from z)
  exact codeO_hoD (c := c) (q := _) (by unfold LamX.CodeO; exact congrArg HO.ext z)
end
end DD
/-! part DB -/
set_option Elab.async false
set_option linter.all false
set_option maxRecDepth 100000
set_option maxHeartbeats 4000000
namespace DD
open PySem PySem.Spec PyProof.Rows L2 LamX

abbrev wg (X : Cx) : Wg := ⟨X.w, X.mg⟩
section
variable {α β γ δ : Type}
/-- a run from (r, H, S): what it wants -/
def tRun (X : Cx) (c : Cf) (W : WX) (R : Lv → Hp → β → α → Prop) (r : Lv) (σ : L2.St) (H : Hp) (S : Sto) (m : M α) (Q : β → Hp → Prop) : Prop :=
  ∃ o S', m S = some (o, S') ∧ match o with
    | .ok a => ∀ r' b H', Ext c.lam r r' H H' → StoRel (wg X) X.K r' H' S' → Tabs c.T H' → R r' H' b a → Q b H'
    | .error x => ∃ C, X.mg x = some (.ref C) ∧ ∀ r' H', Ext c.lam r r' H H' → StoRel (wg X) X.K r' H' S' → Tabs c.T H' → W (.ref C) none σ H'
structure Rel (X : Cx) (c : Cf) (r : Lv) (σ : L2.St) (H : Hp) (ev : Ev) (S : Sto) : Prop where
  sto : StoRel (wg X) X.K r H S
  tabs : Tabs c.T H
  ev : EvR X.K X.mg r σ H ev
  len : σ.length = X.N.length
def tX (X : Cx) (c : Cf) (W : WX) (R : Lv → Hp → β → α → Prop) (f : Ev → M α) : L2.St → Hp → (β → Hp → Prop) → Prop := fun σ H Q =>
  ∃ r ev S, Rel X c r σ H ev S ∧ tRun X c W R r σ H S (f ev) Q
variable {X : Cx} {c : Cf} {W : WX} {r r1 r2 : Lv} {σ : L2.St} {H H1 H2 : Hp} {S S1 S2 : Sto} {ev : Ev}
theorem Rel.ext (x : Rel X c r σ H ev S) (e : Ext c.lam r r1 H H1) (s : StoRel (wg X) X.K r1 H1 S1) (t : Tabs c.T H1) : Rel X c r1 σ H1 ev S1 := ⟨s, t, x.ev.ext e, x.len⟩
theorem tRun.mono {R : Lv → Hp → β → α → Prop} {m : M α} {Q Q' : β → Hp → Prop} (h : tRun X c W R r σ H S m Q) (k : ∀ b H', Q b H' → Q' b H') : tRun X c W R r σ H S m Q' := by
  obtain ⟨o, S', e, h⟩ := h
  refine ⟨o, S', e, ?_⟩
  cases o with
  | ok a => exact fun r' b H' h1 h2 h3 h4 => k _ _ (h r' b H' h1 h2 h3 h4)
  | error x => exact h
theorem tRun.bind {R : Lv → Hp → β → α → Prop} {R1 : Lv → Hp → δ → γ → Prop} {m : M γ} {g : γ → M α} {Q : β → Hp → Prop} (h : tRun X c W R r σ H S (m >>= g) Q) :
    tRun X c W R1 r σ H S m (fun b H1 => ∃ r1 S1 a, Ext c.lam r r1 H H1 ∧ StoRel (wg X) X.K r1 H1 S1 ∧ Tabs c.T H1 ∧ R1 r1 H1 b a ∧ tRun X c W R r1 σ H1 S1 (g a) Q) := by
  obtain ⟨o, S', e, h⟩ := h
  rw [M.bind_run] at e
  cases q : m S with
  | none => rw [q] at e; cases e
  | some p =>
    obtain ⟨o1, S1⟩ := p
    rw [q] at e
    cases o1 with
    | error x =>
      have e' : (Except.error x, S1) = (o, S') := Option.some.inj e
      cases e'
      exact ⟨.error x, _, q, h⟩
    | ok a =>
      refine ⟨.ok a, S1, q, fun r1 b H1 e1 s1 t1 q1 => ⟨r1, S1, a, e1, s1, t1, q1, o, S', e, ?_⟩⟩
      cases o with
      | ok a' => exact fun r' b' H' e2 s2 t2 q2 => h r' b' H' (e1.trans e2) s2 t2 q2
      | error x =>
        obtain ⟨C, hC, h⟩ := h
        exact ⟨C, hC, fun r' H' e2 s2 t2 => h r' H' (e1.trans e2) s2 t2⟩
theorem tX.of {R : Lv → Hp → β → α → Prop} {f : Ev → M α} {Q Q' : β → Hp → Prop} (x : Rel X c r σ H ev S) (h : tRun X c W R r σ H S (f ev) Q) (k : ∀ b H', Q b H' → Q' b H') : tX X c W R f σ H Q' := ⟨r, ev, S, x, h.mono k⟩
/-- nothing is laid: the answer is there -/
theorem tRun.pure {R : Lv → Hp → β → α → Prop} {m : M α} {a : α} {b : β} {Q : β → Hp → Prop} (h : tRun X c W R r σ H S m Q) (e : m S = some (.ok a, S)) (s : StoRel (wg X) X.K r H S) (t : Tabs c.T H) (q : R r H b a) : Q b H := by
  obtain ⟨o, S', e', h⟩ := h
  rw [e] at e'
  cases e'
  exact h r b H s.refl s t q
/-- a new object -/
theorem tRun.new {R : Lv → Hp → β → α → Prop} {m : M α} {a : α} {b : β} {p : Addr} {o : HO} {Q : β → Hp → Prop} (h : tRun X c W R r σ H S m Q) (e : m S = some (.ok a, S)) (s : StoRel (wg X) X.K r H S) (t : Tabs c.T H) (hp : H p = none) (q : R r (upd H p o) b a) : Q b (upd H p o) := by
  obtain ⟨o', S', e', h⟩ := h
  rw [e] at e'
  cases e'
  have x : Ext false r r H (upd H p o) := Ext.new s.mu hp
  exact h r b _ x.up (s.new hp) (tabs_ext x t) q
end

/-! ### the judgements -/
abbrev tE (X : Cx) (c : Cf) (W : WX) (f : Ev → M Vl) : TE := tX X c W (Rw X.K X.mg) f
def Rb : Lv → Hp → Bool → Bool → Prop := fun _ _ b a => b = a
abbrev tT (X : Cx) (c : Cf) (W : WX) (f : Ev → M Bool) : TT := tX X c W Rb f
abbrev tAs (X : Cx) (c : Cf) (W : WX) (f : Ev → M (List Vl)) : TA := tX X c W (RwAll X.K X.mg) f
def QE (X : Cx) (c : Cf) (W : WX) (e : Expr) (f : Ev → M Vl) : Prop := PE X e (tE X c W f)
def QT (X : Cx) (c : Cf) (W : WX) (e : Expr) (f : Ev → M Bool) : Prop := PT X e (tT X c W f)
def QW (X : Cx) (c : Cf) (W : WX) (e : Expr) (f : Ev → M Bool) : Prop := PW X e (tT X c W f)
def QA (X : Cx) (c : Cf) (W : WX) (es : List Expr) (f : Ev → M (List Vl)) : Prop := PA X es (tAs X c W f)
theorem pe_weak {X : Cx} {e : Expr} {t t' : TE} (h : PE X e t) (k : ∀ σ H Q, t' σ H Q → t σ H Q) : PE X e t' := ⟨fun pins s σ H Q I q => h.run pins s σ H Q I (k _ _ _ q)⟩
theorem pt_weak {X : Cx} {e : Expr} {t t' : TT} (h : PT X e t) (k : ∀ σ H Q, t' σ H Q → t σ H Q) : PT X e t' := ⟨fun pins s σ H Q I q => h.run pins s σ H Q I (k _ _ _ q)⟩
theorem pw_weak {X : Cx} {e : Expr} {t t' : TT} (h : PW X e t) (k : ∀ σ H Q, t' σ H Q → t σ H Q) : PW X e t' := ⟨fun wh pins s σ H Q I q => h.run wh pins s σ H Q I (k _ _ _ q)⟩
theorem pa_weak {X : Cx} {e : List Expr} {t t' : TA} (h : PA X e t) (k : ∀ σ H Q, t' σ H Q → t σ H Q) : PA X e t' := ⟨fun pos pins s σ H Q I q => h.run pos pins s σ H Q I (k _ _ _ q)⟩

/-! ### names, constants, tests -/
def fVar (i : Nat) : Ev → M Vl := fun ev => match ev[i]? with
  | some (some w) => pure w
  | _ => M.fail
def fC (x : PyData) : Ev → M Vl := fun _ => pure (.d x)
def fB (f : Ev → M Vl) : Ev → M Bool := fun ev => do
  match ← f ev with
  | .d (.bool b) => pure b
  | _ => M.fail
def fV (f : Ev → M Bool) : Ev → M Vl := fun ev => do
  let b ← f ev
  pure (.d (.bool b))
def fNot (f : Ev → M Bool) : Ev → M Bool := fun ev => do
  let b ← f ev
  pure (!b)
def fAnd (f g : Ev → M Bool) : Ev → M Bool := fun ev => do
  if ← f ev then g ev else pure false
def fOr (f g : Ev → M Bool) : Ev → M Bool := fun ev => do
  if ← f ev then pure true else g ev
def fIte (t : Ev → M Bool) (f g : Ev → M Vl) : Ev → M Vl := fun ev => do
  if ← t ev then f ev else g ev
section
variable {X : Cx} {c : Cf} {W : WX} {e a b : Expr} {f g : Ev → M Vl} {t u : Ev → M Bool} {pos : Pos} {rest : List Expr}
theorem fail_run {α β : Type} {c : Cf} {R : Lv → Hp → β → α → Prop} {r : Lv} {σ : L2.St} {H : Hp} {S : Sto} {Q : β → Hp → Prop} (h : tRun X c W R r σ H S M.fail Q) : False := by
  obtain ⟨_, _, e, _⟩ := h
  cases e
theorem qe_var (i : Nat) {x : Str} (hN : X.N[i]? = some x := by rfl) (hv : Vis X.env.scope x := by first | exact Or.inl rfl | exact Or.inr (Or.inl rfl) | exact Or.inr (Or.inr rfl)) (hd : (x == ("__debug__" : Str)) = false := by decide)
    (hcd : (x == ("__classdict__" : Str)) = false := by decide) : QE X c W (.Name x pos) (fVar i) := by
  refine pe_weak (pe_var hN hv hd hcd) fun σ H Q h => ?_
  obtain ⟨r, ev, S, x, h⟩ := h
  unfold fVar at h
  split at h
  · rename_i w q
    obtain ⟨v, h1, h2⟩ := x.ev i w q
    exact ⟨v, h1, h.pure rfl x.sto x.tabs h2⟩
  · exact (fail_run h).elim
theorem qe_const {v : V} {d : PyData} (h : PE X e (tC v)) (k : ∀ r H, Rp X.K r H v d) : QE X c W e (fC d) := by
  refine pe_weak h fun σ H Q h => ?_
  obtain ⟨r, ev, S, x, h⟩ := h
  exact h.pure rfl x.sto x.tabs (k r H)
theorem qe_int {i j} : QE X c W (.Constant (.int i) j pos) (fC (.int i)) := qe_const pe_int fun _ _ => .int i
theorem qe_bl {i j} : QE X c W (.Constant (.bool i) j pos) (fC (.bool i)) := qe_const pe_bl fun _ _ => .bl i
theorem qe_str {i j} : QE X c W (.Constant (.str i) j pos) (fC (.str i)) := qe_const pe_str fun _ _ => .str i
theorem qe_non {j} : QE X c W (.Constant .none j pos) (fC .none) := qe_const pe_non fun _ _ => .non
theorem qt_val (h : QE X c W e f) (he : ∀ whole, isTrue e X.env whole = (do let v ← whole; standAt e.pos; holding [v] (truthy v)) := by intro _; rfl) : QT X c W e (fB f) := by
  refine pt_weak (pt_val h he) fun σ H Q h => ?_
  obtain ⟨r, ev, S, x, h⟩ := h
  refine tX.of x h.bind fun b H1 ⟨r1, S1, w, e1, s1, t1, q1, h1⟩ => ?_
  try dsimp only at h1
  split at h1
  · rename_i b'
    cases q1
    exact ⟨b', rfl, h1.pure rfl s1 t1 rfl⟩
  · exact (fail_run h1).elim
theorem qt_not (h : QT X c W e t) : QT X c W (.UnaryOp .Not e pos) (fNot t) := by
  refine pt_weak (pt_not h) fun σ H Q h => ?_
  obtain ⟨r, ev, S, x, h⟩ := h
  refine tX.of x h.bind fun b H1 ⟨r1, S1, w, e1, s1, t1, q1, h1⟩ => ?_
  cases q1
  exact h1.pure rfl s1 t1 rfl
theorem QW.qt (h : QW X c W e t) : QT X c W e t := PW.pt h
theorem qw_and1 (h : QT X c W a t) : QW X c W (.BoolOp .And [a] pos) t := pw_and1 h
theorem qw_or1 (h : QT X c W a t) : QW X c W (.BoolOp .Or [a] pos) t := pw_or1 h
theorem qw_and (h : QT X c W a t) (k : QW X c W (.BoolOp .And (b :: rest) pos) u) : QW X c W (.BoolOp .And (a :: b :: rest) pos) (fAnd t u) := by
  refine pw_weak (pw_and h k) fun σ H Q h => ?_
  obtain ⟨r, ev, S, x, h⟩ := h
  refine tX.of x h.bind fun b H1 ⟨r1, S1, w, e1, s1, t1, q1, h1⟩ => ?_
  cases q1
  cases b with
  | true => exact ⟨r1, ev, S1, x.ext e1 s1 t1, h1⟩
  | false => exact h1.pure rfl s1 t1 rfl
theorem qw_or (h : QT X c W a t) (k : QW X c W (.BoolOp .Or (b :: rest) pos) u) : QW X c W (.BoolOp .Or (a :: b :: rest) pos) (fOr t u) := by
  refine pw_weak (pw_or h k) fun σ H Q h => ?_
  obtain ⟨r, ev, S, x, h⟩ := h
  refine tX.of x h.bind fun b H1 ⟨r1, S1, w, e1, s1, t1, q1, h1⟩ => ?_
  cases q1
  cases b with
  | false => exact ⟨r1, ev, S1, x.ext e1 s1 t1, h1⟩
  | true => exact h1.pure rfl s1 t1 rfl
theorem qe_ite {cc : Expr} (h : QT X c W cc t) (ha : QE X c W a f) (hb : QE X c W b g) : QE X c W (.IfExp cc a b pos) (fIte t f g) := by
  refine pe_weak (pe_ifExp h ha hb) fun σ H Q h => ?_
  obtain ⟨r, ev, S, x, h⟩ := h
  refine tX.of x h.bind fun b H1 ⟨r1, S1, w, e1, s1, t1, q1, h1⟩ => ?_
  cases q1
  cases b with
  | true => exact ⟨r1, ev, S1, x.ext e1 s1 t1, h1⟩
  | false => exact ⟨r1, ev, S1, x.ext e1 s1 t1, h1⟩
/-- and, or, not as values: bools -/
def fAndV (f g : Ev → M Vl) : Ev → M Vl := fun ev => do
  match ← f ev with
  | .d (.bool true) => g ev
  | .d (.bool false) => pure (.d (.bool false))
  | _ => M.fail
def fOrV (f g : Ev → M Vl) : Ev → M Vl := fun ev => do
  match ← f ev with
  | .d (.bool false) => g ev
  | .d (.bool true) => pure (.d (.bool true))
  | _ => M.fail
def fNotV (f : Ev → M Vl) : Ev → M Vl := fun ev => do
  match ← f ev with
  | .d (.bool b) => pure (.d (.bool !b))
  | _ => M.fail
theorem qe_one {op} (h : QE X c W a f) : QE X c W (.BoolOp op [a] pos) f := pe_one h
theorem qe_and (h : QE X c W a f) (k : QE X c W (.BoolOp .And (b :: rest) pos) g) : QE X c W (.BoolOp .And (a :: b :: rest) pos) (fAndV f g) := by
  refine pe_weak (pe_and h k) fun σ H Q h => ?_
  obtain ⟨r, ev, S, x, h⟩ := h
  refine tX.of x h.bind fun b H1 ⟨r1, S1, w, e1, s1, t1, q1, h1⟩ => ?_
  try dsimp only at h1
  split at h1
  · cases q1
    exact ⟨true, rfl, ⟨r1, ev, S1, x.ext e1 s1 t1, h1⟩⟩
  · cases q1
    exact ⟨false, rfl, h1.pure rfl s1 t1 (.bl false)⟩
  · exact (fail_run h1).elim
theorem qe_or (h : QE X c W a f) (k : QE X c W (.BoolOp .Or (b :: rest) pos) g) : QE X c W (.BoolOp .Or (a :: b :: rest) pos) (fOrV f g) := by
  refine pe_weak (pe_or h k) fun σ H Q h => ?_
  obtain ⟨r, ev, S, x, h⟩ := h
  refine tX.of x h.bind fun b H1 ⟨r1, S1, w, e1, s1, t1, q1, h1⟩ => ?_
  try dsimp only at h1
  split at h1
  · cases q1
    exact ⟨false, rfl, ⟨r1, ev, S1, x.ext e1 s1 t1, h1⟩⟩
  · cases q1
    exact ⟨true, rfl, h1.pure rfl s1 t1 (.bl true)⟩
  · exact (fail_run h1).elim
theorem qe_not (h : QE X c W a f) : QE X c W (.UnaryOp .Not a pos) (fNotV f) := by
  refine pe_weak (pe_not h) fun σ H Q h => ?_
  obtain ⟨r, ev, S, x, h⟩ := h
  refine tX.of x h.bind fun b H1 ⟨r1, S1, w, e1, s1, t1, q1, h1⟩ => ?_
  try dsimp only at h1
  split at h1
  · cases q1
    exact ⟨_, rfl, h1.pure rfl s1 t1 (.bl _)⟩
  · exact (fail_run h1).elim
end
end DD
/-! part DC -/
set_option Elab.async false
set_option linter.all false
set_option maxRecDepth 100000
set_option maxHeartbeats 4000000
namespace DD
open PySem PySem.Spec PyProof.Rows L2 LamX

/-! ### a value read as data: a mutable list as it stands -/
def rd : Vl → M PyData
  | .d a => pure a
  | .m n => fun S => match S[n]? with
    | some (.l xs) => some (.ok (.list xs), S)
    | _ => none
  | .f _ => M.fail
  | .r _ _ => M.fail
  | .p _ _ => M.fail
def Rq (K : PySem.W.Frag) (r : Lv) (H : Hp) (v : V) (d : PyData) : Prop :=
  Rp K r H v d ∨ ∃ a vs ds, v = .ref a ∧ d = .list ds ∧ H a = some (.lst vs) ∧ RpAll K r H vs ds
def RdL (H : Hp) (a : Addr) (vs : List V) : Prop := Rd H a (.lst vs)
section
variable {α β : Type} {X : Cx} {c : Cf} {W : WX} {K : PySem.W.Frag} {r r1 : Lv} {σ : L2.St} {H H1 : Hp} {S : Sto} {v : V} {d : PyData}
theorem Rq.dp (h : Rq K r H v d) : Dp K H v d := by
  rcases h with h | ⟨a, vs, ds, rfl, rfl, h, t⟩
  · exact h.dp
  · exact .lst (.inl (.inl h)) t.dp
theorem Rq.list {ds : List PyData} (h : Rq K r H v (.list ds)) : ∃ a vs, v = .ref a ∧ SqL K H a vs ∧ RpAll K r H vs ds := by
  rcases h with h | ⟨a, vs, ds', rfl, e, h, t⟩
  · cases h with
    | lst h t => exact ⟨_, _, rfl, h.sq, t⟩
  · cases e
    exact ⟨a, vs, rfl, .inl (.inl h), t⟩
theorem Rq.tup {ds : List PyData} (h : Rq K r H v (.tuple ds)) : ∃ a vs, v = .ref a ∧ SqT K H a vs ∧ RpAll K r H vs ds := by
  rcases h with h | ⟨a, vs, ds', rfl, e, h, t⟩
  · cases h with
    | tup h t => exact ⟨_, _, rfl, h, t⟩
  · cases e
theorem Rq.int {i : Int} (h : Rq K r H v (.int i)) : v = .int i := by
  rcases h with h | ⟨a, vs, ds', rfl, e, h, t⟩
  · cases h; rfl
  · cases e
theorem Rq.bool {i : Bool} (h : Rq K r H v (.bool i)) : v = .bl i := by
  rcases h with h | ⟨a, vs, ds', rfl, e, h, t⟩
  · cases h; rfl
  · cases e
theorem Rq.str {i : Str} (h : Rq K r H v (.str i)) : v = .str i := by
  rcases h with h | ⟨a, vs, ds', rfl, e, h, t⟩
  · cases h; rfl
  · cases e
theorem Rq.none (h : Rq K r H v .none) : v = .non := by
  rcases h with h | ⟨a, vs, ds', rfl, e, h, t⟩
  · cases h; rfl
  · cases e
theorem rd_run {R : Lv → Hp → β → α → Prop} {g : PyData → M α} {w : Vl} {Q : β → Hp → Prop} (h : tRun X c W R r σ H S (rd w >>= g) Q) (s : StoRel (wg X) X.K r H S) (q : Rw X.K X.mg r H v w) :
    ∃ d, Rq X.K r H v d ∧ tRun X c W R r σ H S (g d) Q := by
  cases w with
  | d x => exact ⟨x, .inl q, h⟩
  | f x =>
    obtain ⟨_, _, e, _⟩ := h
    cases e
  | r lo hi =>
    obtain ⟨_, _, e, _⟩ := h
    cases e
  | p a b =>
    obtain ⟨_, _, e, _⟩ := h
    cases e
  | m n =>
    obtain ⟨a, h1, rfl⟩ := q
    obtain ⟨o, S', e, h⟩ := h
    rw [M.bind_run] at e
    have e2 : rd (.m n) S = match S[n]? with
      | some (.l xs) => some (.ok (.list xs), S)
      | _ => none := rfl
    cases q : S[n]? with
    | none => rw [e2, q] at e; cases e
    | some u =>
      cases u with
      | l xs =>
        rw [e2, q] at e
        obtain ⟨vs, h2, h3⟩ := s.at_ n a xs h1 q
        exact ⟨.list xs, .inr ⟨a, vs, xs, rfl, rfl, h2, h3⟩, o, S', e, h⟩
      | k kvs => rw [e2, q] at e; cases e
      | q kvs => rw [e2, q] at e; cases e
      | w kvs => rw [e2, q] at e; cases e
      | o c kvs => rw [e2, q] at e; cases e
      | z kvs => rw [e2, q] at e; cases e
theorem lift_run {R : Lv → Hp → β → α → Prop} {γ : Type} {g : γ → M α} {o : Option γ} {Q : β → Hp → Prop} (h : tRun X c W R r σ H S (M.lift o >>= g) Q) : ∃ x, o = some x ∧ tRun X c W R r σ H S (g x) Q := by
  cases o with
  | none =>
    obtain ⟨_, _, e, _⟩ := h
    cases e
  | some x => exact ⟨x, rfl, h⟩
/-- what an answer's data ask: any place and heap that bear them -/
def Acc (X : Cx) (r : Lv) (H : Hp) (S : Sto) (d : PyData) (Q : VK) : Prop := ∀ v H', Ext false r r H H' → StoRel (wg X) X.K r H' S → Rp X.K r H' v d → Q v H'
theorem Acc.here {Q : VK} (a : Acc X r H S d Q) (s : StoRel (wg X) X.K r H S) (q : Rp X.K r H v d) : Q v H := a v H s.refl s q
theorem Acc.new {Q : VK} {p : Addr} {o : HO} (a : Acc X r H S d Q) (s : StoRel (wg X) X.K r H S) (hp : H p = none) (q : Rp X.K r (upd H p o) v d) : Q v (upd H p o) := a v _ (Ext.new s.mu hp) (s.new hp) q
theorem acc_of {Q : VK} (h : tRun X c W (Rw X.K X.mg) r σ H S (pure (.d d)) Q) (t : Tabs c.T H) : Acc X r H S d Q := fun v H' e s q => by
  obtain ⟨o, S', e', h⟩ := h
  cases e'
  exact h r v H' e.up s (tabs_ext e t) q
end

/-! ### operations -/
def fOp (op : PyData → PyData → Option PyData) (f g : Ev → M Vl) : Ev → M Vl := fun ev => do
  let x ← f ev
  let y ← g ev
  let a ← rd x
  let b ← rd y
  let z ← M.lift (op a b)
  pure (.d z)
def fUn (op : PyData → Option PyData) (f : Ev → M Vl) : Ev → M Vl := fun ev => do
  let x ← f ev
  let a ← rd x
  let z ← M.lift (op a)
  pure (.d z)
def OpD (X : Cx) (R : R2) (op : PyData → PyData → Option PyData) : Prop := ∀ r H S x y a b z Q, StoRel (wg X) X.K r H S → Rq X.K r H x a → Rq X.K r H y b → op a b = some z → Acc X r H S z Q → R x y H Q
def UnD (X : Cx) (R : V → Hp → VK → Prop) (op : PyData → Option PyData) : Prop := ∀ r H S x a z Q, StoRel (wg X) X.K r H S → Rq X.K r H x a → op a = some z → Acc X r H S z Q → R x H Q
/-- an operation on values that is read as op -/
def OpQ (X : Cx) (f : Value → Value → Sem Value) (op : PyData → PyData → Option PyData) : Prop := ∃ R, OpR X f R ∧ OpD X R op
def IxQ (X : Cx) (op : PyData → PyData → Option PyData) : Prop := ∃ R, IxR X R ∧ OpD X R op
def UnQ (X : Cx) (f : Value → Sem Value) (op : PyData → Option PyData) : Prop := ∃ R, UnR X f R ∧ UnD X R op
section
variable {X : Cx} {c : Cf} {W : WX} {e a b : Expr} {f g h : Ev → M Vl} {pos : Pos}
theorem op_weak {R : R2} {op : PyData → PyData → Option PyData} (hd : OpD X R op) {σ : L2.St} {H : Hp} {Q : VK} (h : tE X c W (fOp op f g) σ H Q) : tOp R (tE X c W f) (tE X c W g) σ H Q := by
  obtain ⟨r, ev, S, x, h⟩ := h
  refine tX.of x h.bind fun v H1 ⟨r1, S1, w, e1, s1, t1, q1, h1⟩ => ?_
  have x1 := x.ext e1 s1 t1
  refine tX.of x1 h1.bind fun u H2 ⟨r2, S2, y, e2, s2, t2, q2, h2⟩ => ?_
  obtain ⟨a, qa, h3⟩ := rd_run h2 s2 (q1.ext e2)
  obtain ⟨b, qb, h4⟩ := rd_run h3 s2 q2
  obtain ⟨z, ez, h5⟩ := lift_run h4
  exact hd r2 H2 S2 v u a b z Q s2 qa qb ez (acc_of h5 t2)
theorem qe_op {o : Operator} {op : PyData → PyData → Option PyData} (hq : OpQ X (binaryOp o) op) (ha : QE X c W a f) (hb : QE X c W b g) : QE X c W (.BinOp a o b pos) (fOp op f g) := by
  obtain ⟨R, h1, h2⟩ := hq
  exact pe_weak (pe_op h1 ha hb) fun σ H Q h => op_weak h2 h
theorem qe_cmp {o : CmpOp} {op : PyData → PyData → Option PyData} (hq : OpQ X (compareOp o) op) (ha : QE X c W a f) (hb : QE X c W b g) (hm : behindInMarks o b = false := by first | exact nomark _ (by decide) (by decide) | with_unfolding_all rfl) : QE X c W (.Compare a [o] [b] pos) (fOp op f g) := by
  obtain ⟨R, h1, h2⟩ := hq
  exact pe_weak (pe_cmpR h1 ha hb hm) fun σ H Q h => op_weak h2 h
theorem fB_of {F : Ev → M Vl} {σ : L2.St} {H : Hp} {Q : Bool → Hp → Prop} (h : tT X c W (fB F) σ H Q) : tE X c W F σ H (fun x H1 => ∃ k, x = .bl k ∧ Q k H1) := by
  obtain ⟨r, ev, S, x, h⟩ := h
  refine tX.of x h.bind fun v H1 ⟨r1, S1, w, e1, s1, t1, q1, h1⟩ => ?_
  try dsimp only at h1
  split at h1
  · cases q1
    exact ⟨_, rfl, h1.pure rfl s1 t1 rfl⟩
  · exact (fail_run h1).elim
theorem qt_cmp {o : CmpOp} {op : PyData → PyData → Option PyData} (hq : OpQ X (compareOp o) op) (ha : QE X c W a f) (hb : QE X c W b g) (hm : behindInMarks o b = false := by first | exact nomark _ (by decide) (by decide) | with_unfolding_all rfl) : QT X c W (.Compare a [o] [b] pos) (fB (fOp op f g)) := by
  obtain ⟨R, h1, h2⟩ := hq
  exact pt_weak (pt_cmpR h1 ha hb hm) fun σ H Q h => op_weak h2 (fB_of h)
theorem qe_ix {op : PyData → PyData → Option PyData} (hq : IxQ X op) (ha : QE X c W a f) (hb : QE X c W b g) (hs : PlainIx b := by exact fun _ _ => rfl) : QE X c W (.Subscript a b pos) (fOp op f g) := by
  obtain ⟨R, h1, h2⟩ := hq
  exact pe_weak (pe_ix h1 ha hb hs) fun σ H Q h => op_weak h2 h
theorem qe_un {o : UnaryOp} {op : PyData → Option PyData} (hq : UnQ X (unaryOp o) op) (ha : QE X c W a f) : QE X c W (.UnaryOp o a pos) (fUn op f) := by
  obtain ⟨R, h1, h2⟩ := hq
  refine pe_weak (pe_un h1 ha) fun σ H Q h => ?_
  obtain ⟨r, ev, S, x, h⟩ := h
  refine tX.of x h.bind fun v H1 ⟨r1, S1, w, e1, s1, t1, q1, h3⟩ => ?_
  obtain ⟨a, qa, h3⟩ := rd_run h3 s1 q1
  obtain ⟨z, ez, h5⟩ := lift_run h3
  exact h2 r1 H1 S1 v a z Q s1 qa ez (acc_of h5 t1)
/-- a o1 b o2 c -/
def fChain (op op' : PyData → PyData → Option PyData) (f g h : Ev → M Vl) : Ev → M Vl := fun ev => do
  let x ← f ev
  let y ← g ev
  let a ← rd x
  let b ← rd y
  let t ← M.lift (op a b)
  match t with
  | .bool false => pure (.d (.bool false))
  | .bool true =>
    let z ← h ev
    let b ← rd y
    let c ← rd z
    let u ← M.lift (op' b c)
    pure (.d u)
  | _ => M.fail
/-- a comparison lays nothing -/
def OpB (X : Cx) (R : R2) (op : PyData → PyData → Option PyData) : Prop := ∀ r H S x y a b z Q, StoRel (wg X) X.K r H S → Rq X.K r H x a → Rq X.K r H y b → op a b = some z → (∀ k, z = .bool k → Q (.bl k) H) → R x y H Q
def CmQ (X : Cx) (f : Value → Value → Sem Value) (op : PyData → PyData → Option PyData) : Prop := ∃ R, OpR X f R ∧ OpB X R op ∧ ∀ a b z, op a b = some z → ∃ k, z = .bool k
theorem CmQ.op {F : Value → Value → Sem Value} {op : PyData → PyData → Option PyData} (h : CmQ X F op) : OpQ X F op := by
  obtain ⟨R, h1, h2, h3⟩ := h
  refine ⟨R, h1, fun r H S x y a b z Q s qa qb e A => h2 r H S x y a b z Q s qa qb e fun k hk => ?_⟩
  subst hk
  exact A.here s (.bl k)
theorem chain_weak {R R' : R2} {op op' : PyData → PyData → Option PyData} (hb1 : OpB X R op) (hd : OpB X R' op') (hz : ∀ a b z, op' a b = some z → ∃ k, z = .bool k) {σ : L2.St} {H : Hp} {Q : VK} (hh : tE X c W (fChain op op' f g h) σ H Q) : tChain R R' (tE X c W f) (tE X c W g) (tE X c W h) σ H Q := by
  obtain ⟨r, ev, S, x, hh⟩ := hh
  refine tX.of x hh.bind fun v H1 ⟨r1, S1, w, e1, s1, t1, q1, h1⟩ => ?_
  have x1 := x.ext e1 s1 t1
  refine tX.of x1 h1.bind fun u H2 ⟨r2, S2, y, e2, s2, t2, q2, h2⟩ => ?_
  have x2 := x1.ext e2 s2 t2
  obtain ⟨a, qa, h3⟩ := rd_run h2 s2 (q1.ext e2)
  obtain ⟨b, qb, h4⟩ := rd_run h3 s2 q2
  obtain ⟨z, ez, h5⟩ := lift_run h4
  refine hb1 r2 H2 S2 v u a b z _ s2 qa qb ez fun k hk => ⟨k, rfl, ?_⟩
  subst hk
  cases k with
  | false => exact h5.pure rfl s2 t2 (.bl false)
  | true =>
    refine tX.of x2 h5.bind fun v3 H3 ⟨r3, S3, w3, e3, s3, t3, q3, h6⟩ => ?_
    obtain ⟨b', qb', h7⟩ := rd_run h6 s3 (q2.ext e3)
    obtain ⟨c', qc', h8⟩ := rd_run h7 s3 q3
    obtain ⟨z', ez', h9⟩ := lift_run h8
    refine hd r3 H3 S3 u v3 b' c' z' Q s3 qb' qc' ez' fun k hk => ?_
    subst hk
    exact h9.pure rfl s3 t3 (.bl k)
theorem qe_chain {cc : Expr} {o o' : CmpOp} {op op' : PyData → PyData → Option PyData} (hq : CmQ X (compareOp o) op) (hq' : CmQ X (compareOp o') op') (ha : QE X c W a f) (hb : QE X c W b g) (hc : QE X c W cc h)
    (hm : lastMarks [o, o'] [b, cc] = false := by with_unfolding_all rfl) : QE X c W (.Compare a [o, o'] [b, cc] pos) (fChain op op' f g h) := by
  obtain ⟨R, h1, h2, _⟩ := hq
  obtain ⟨R', h1', h2', h3'⟩ := hq'
  exact pe_weak (pe_chain h1 h1' ha hb hc hm) fun σ H Q h => chain_weak h2 h2' h3' h
theorem qt_chain {cc : Expr} {o o' : CmpOp} {op op' : PyData → PyData → Option PyData} (hq : CmQ X (compareOp o) op) (hq' : CmQ X (compareOp o') op') (ha : QE X c W a f) (hb : QE X c W b g) (hc : QE X c W cc h)
    (hm : lastMarks [o, o'] [b, cc] = false := by with_unfolding_all rfl) : QT X c W (.Compare a [o, o'] [b, cc] pos) (fB (fChain op op' f g h)) := by
  obtain ⟨R, h1, h2, _⟩ := hq
  obtain ⟨R', h1', h2', h3'⟩ := hq'
  exact pt_weak (pt_chain h1 h1' ha hb hc hm) fun σ H Q h => chain_weak h2 h2' h3' (fB_of h)
end
end DD
/-! part DO -/
set_option Elab.async false
set_option linter.all false
set_option maxRecDepth 100000
set_option maxHeartbeats 4000000
namespace DD
open PySem PySem.Spec PyProof.Rows L2 LamX
section
variable {X : Cx} {r : Lv} {H : Hp} {S : Sto} {K : PySem.W.Frag}

/-! ### list + list, list * int, of lists that are read -/
theorem lstR {X : Cx} {pins : List (Addr × Obj)} {σ : L2.St} {H : Hp} {s : Shared} {l : Addr} {xs : List V} (I : Inv X pins σ H s) (hH : Rd H l (.lst xs)) : xs.length ≤ sizeLine ∧ ∃ (its : List Value) (n : Nat), Vals xs its ∧ xs.length = its.length ∧ s.heap.get? l = some { cls := .type "list", data := .seq its.toArray n } := by
  obtain ⟨z, its, n, r, e⟩ := hH.ok I.hok
  exact ⟨z, its, n, r, r.length, e⟩
def rCatR (K : PySem.W.Frag) : R2 := fun x y H Q => ∃ l b xs zs, x = .ref l ∧ y = .ref b ∧ SqL K H l xs ∧ SqL K H b zs ∧ xs.length + zs.length ≤ sizeLine ∧ ∀ p, H p = none → Q (.ref p) (upd H p (.lst (xs ++ zs)))
theorem op_catR : OpR X (binaryOp .Add) (rCatR X.K) := by
  intro pins s σ H x y v u Q I rx ry h
  obtain ⟨l, b, xs, zs, rfl, rfl, hH, hB, hz, q⟩ := h
  cases rx
  cases ry
  obtain ⟨its, r, pl, _⟩ := I.list hH
  obtain ⟨its2, r2, pl2, _⟩ := I.list hB
  obtain ⟨⟨cls, dd, data, sl⟩, ho, hc, n, hd⟩ := pl.isList
  obtain ⟨⟨cls2, dd2, data2, sl2⟩, ho2, hc2, n2, hd2⟩ := pl2.isList
  simp only at hc hd hc2 hd2
  subst hc hd hc2 hd2
  have hl := r.length
  have hl2 := r2.length
  have e : its.toArray ++ its2.toArray = (its ++ its2).toArray := by simp
  refine concat_meets ⟨_, ho, rfl⟩ ⟨_, ho2, rfl⟩ noFill_list_add seq_list_add PySem.F.slot_list_add PySem.F.entry_list_add (PySem.F.args_list_add_2 _ _) (list_addW l b its.toArray its2.toArray n n2 dd dd2 sl sl2 (by rw [List.size_toArray, List.size_toArray]; omega)) ⟨ho, ho2, ?_⟩
  rw [e]
  exact ⟨.ref _, _, I.lnew (t' := s.toks) (r.append r2) (by rw [List.length_append]; omega), rfl, q _ I.fresh⟩
def rRepR : R2 := fun x y H Q => ∃ l k xs, x = .ref l ∧ y = .int k ∧ Rd H l (.lst xs) ∧ -(2 ^ 63) ≤ k ∧ k < 2 ^ 63 ∧ xs.length * k.toNat ≤ sizeLine ∧
  ∀ p, H p = none → Q (.ref p) (upd H p (.lst (List.replicate k.toNat xs).flatten))
theorem op_repR : OpR X (binaryOp .Mult) rRepR := by
  intro pins s σ H x y v u Q I rx ry h
  obtain ⟨l, k, xs, rfl, rfl, hH, h1, h2, hz, q⟩ := h
  cases rx
  obtain ⟨t, rfl⟩ := ry
  obtain ⟨z, its, n, r, hl, e⟩ := lstR I hH
  have hlen : its.toArray.size * k.toNat ≤ sizeLine := by rw [List.size_toArray, ← hl]; exact hz
  have hcap : ¬ its.toArray.size * k.toNat > (2 ^ 63 - 1) / 8 := by
    have : (sizeLine : Nat) ≤ (2 ^ 63 - 1) / 8 := by decide
    omega
  have hfit : ¬ (!Builtin.List.listFitsIndex k) = true := by
    rw [fitsIndex_both h1 h2]
    exact Bool.false_ne_true
  have hlong : ¬ Builtin.List.listTooLong (its.toArray.size * k.toNat) = true := by
    rw [notLongL hlen]
    exact Bool.false_ne_true
  have hnew : List.foldl (fun x1 x2 => x1 ++ x2) #[] (List.replicate (if its.toArray.isEmpty = true then 0 else k.toNat) its.toArray) = (List.replicate k.toNat its).flatten.toArray := by
    have f0 : ∀ m : Nat, List.foldl (fun x1 x2 => x1 ++ x2) #[] (List.replicate m its.toArray) = (List.replicate m its).flatten.toArray := fun m => by
      have := foldl_rep its m []
      rw [List.nil_append] at this
      exact this
    rw [f0]
    cases its with
    | nil => simp
    | cons a r' => rw [if_neg (by simp)]
  refine wpAny_binaryOp_repeat_ref (T := "list") (U := "int") (by decide) ⟨_, e, rfl⟩ (fun s' => typeIs_int s' k t) noFill_list_mul F.fills_int_mul F.slot_int_rmul repeat_list F.slot_int_index.lookup
    (call_meets F.slot_int_rmul (typeIs_int s k t) F.entry_int_rmul (F.args_int_rmul_2 _ _) (int___rmul___int_list k t l its.toArray n)
      ⟨e, rfl, ⟨_, e, rfl⟩, call_meets F.slot_list_mul ⟨_, e, rfl⟩ F.entry_list_mul (F.args_list_mul_2 _ _) (AutoListH.list___mul___list_int_3 l its.toArray n k t hfit hcap hlong) ⟨e, ?_⟩⟩)
  rw [hnew]
  exact ⟨.ref _, _, I.lnew (t' := s.toks) (r.rep k.toNat) (by rw [PyProof.Rows.lm_len_rep_flat, Nat.mul_comm]; exact hz), rfl, q _ I.fresh⟩
theorem RpAll.rep {vs : List V} {ds : List PyData} (h : RpAll K r H vs ds) : ∀ n : Nat, RpAll K r H (List.replicate n vs).flatten (List.replicate n ds).flatten
  | 0 => .nil
  | n + 1 => by
    rw [List.replicate_succ, List.flatten_cons, List.replicate_succ, List.flatten_cons]
    exact h.append (RpAll.rep h n)

/-! ### arithmetic -/
def addP : PyData → PyData → Option PyData
  | .int i, .int j => some (.int (i + j))
  | .tuple xs, .tuple ys => if xs.length + ys.length ≤ 1000000 then some (.tuple (xs ++ ys)) else none
  | .list xs, .list ys => if xs.length + ys.length ≤ 1000000 then some (.list (xs ++ ys)) else none
  | _, _ => none
theorem szl {n : Nat} (h : n ≤ 1000000) : n ≤ sizeLine := by rw [sizeLine_eq]; omega
theorem q_add : OpQ X (binaryOp .Add) addP := by
  refine ⟨_, op_add.or (op_catA.or op_catR), fun r H S x y a b z Q s qa qb e A => ?_⟩
  cases a <;> cases b <;> simp only [addP] at e <;> try cases e
  · cases qa.int; cases qb.int
    exact .inl ⟨_, _, rfl, rfl, A.here s (.int _)⟩
  · rename_i xs ys
    split at e
    · rename_i hz
      cases e
      obtain ⟨a, vs, rfl, h1, h2⟩ := qa.list
      obtain ⟨b, us, rfl, h3, h4⟩ := qb.list
      refine .inr (.inr ⟨a, b, vs, us, rfl, rfl, h1, h3, by rw [h2.length, h4.length]; exact szl hz, fun p hp => ?_⟩)
      have E : Ext false r r H (upd H p (.lst (vs ++ us))) := Ext.new s.mu hp
      exact A.new s hp (.lst (.inl ⟨upd_same, s.no hp⟩) ((h2.append h4).ext E))
    · cases e
  · rename_i xs ys
    split at e
    · rename_i hz
      cases e
      obtain ⟨a, vs, rfl, h1, h2⟩ := qa.tup
      obtain ⟨b, us, rfl, h3, h4⟩ := qb.tup
      refine .inr (.inl ⟨a, b, vs, us, rfl, rfl, h1, h3, by rw [h2.length, h4.length]; exact szl hz, fun e1 => ?_, fun _ e2 => ?_, fun _ _ p hp => ?_⟩)
      · subst e1
        cases h2
        exact A.here s (.tup h3 h4)
      · subst e2
        cases h4
        rw [List.append_nil] at A
        exact A.here s (.tup h1 h2)
      · have E : Ext false r r H (upd H p (.tup (vs ++ us))) := Ext.new s.mu hp
        exact A.new s hp (.tup (.inl (.inl upd_same)) ((h2.append h4).ext E))
    · cases e
def subP : PyData → PyData → Option PyData
  | .int i, .int j => some (.int (i - j))
  | _, _ => none
theorem q_sub : OpQ X (binaryOp .Sub) subP := by
  refine ⟨_, op_sub, fun r H S x y a b z Q s qa qb e A => ?_⟩
  cases a <;> cases b <;> simp only [subP] at e <;> try cases e
  cases qa.int; cases qb.int
  exact ⟨_, _, rfl, rfl, A.here s (.int _)⟩
def mulP : PyData → PyData → Option PyData
  | .int i, .int j => if i.natAbs < 2 ^ 60 ∨ j.natAbs < 2 ^ 60 then some (.int (i * j)) else none
  | _, _ => none
theorem q_mul : OpQ X (binaryOp .Mult) mulP := by
  refine ⟨_, op_mul, fun r H S x y a b z Q s qa qb e A => ?_⟩
  cases a <;> cases b <;> simp only [mulP] at e <;> try cases e
  split at e
  · rename_i h
    cases e
    cases qa.int; cases qb.int
    refine ⟨_, _, rfl, rfl, ?_, A.here s (.int _)⟩
    unfold CMul
    rcases h with h | h
    · exact .inl ⟨by omega, by omega⟩
    · exact .inr ⟨by omega, by omega⟩
  · cases e
def modP : PyData → PyData → Option PyData
  | .int i, .int j => if 0 < j then some (.int (i % j)) else none
  | _, _ => none
theorem q_mod : OpQ X (binaryOp .Mod) modP := by
  refine ⟨_, op_mod, fun r H S x y a b z Q s qa qb e A => ?_⟩
  cases a <;> cases b <;> simp only [modP] at e <;> try cases e
  split at e
  · rename_i h
    cases e
    cases qa.int; cases qb.int
    exact ⟨_, _, rfl, rfl, h, A.here s (.int _)⟩
  · cases e
def fdivP : PyData → PyData → Option PyData
  | .int i, .int j => if 0 < j ∧ j < 2 ^ 60 then some (.int (i / j)) else none
  | _, _ => none
theorem q_fdiv : OpQ X (binaryOp .FloorDiv) fdivP := by
  refine ⟨_, op_fdivW, fun r H S x y a b z Q s qa qb e A => ?_⟩
  cases a <;> cases b <;> simp only [fdivP] at e <;> try cases e
  split at e
  · rename_i h
    cases e
    cases qa.int; cases qb.int
    exact ⟨_, _, rfl, rfl, wide_div (b := 60) h.1 (by omega) (by decide) (by decide), A.here s (.int _)⟩
  · cases e
def powP : PyData → PyData → Option PyData
  | .int i, .int j => if 0 ≤ j ∧ j ≤ 64 ∧ i.natAbs < 2 ^ 64 then some (.int (i ^ j.toNat)) else none
  | _, _ => none
theorem q_pow : OpQ X (binaryOp .Pow) powP := by
  refine ⟨_, op_pow, fun r H S x y a b z Q s qa qb e A => ?_⟩
  cases a <;> cases b <;> simp only [powP] at e <;> try cases e
  split at e
  · rename_i h
    cases e
    cases qa.int; cases qb.int
    exact ⟨_, _, rfl, rfl, ⟨h.1, by omega, h.2.2⟩, A.here s (.int _)⟩
  · cases e
def negP : PyData → Option PyData
  | .int i => some (.int (-i))
  | _ => none
theorem q_neg : UnQ X (unaryOp .USub) negP := by
  refine ⟨_, un_neg, fun r H S x a z Q s qa e A => ?_⟩
  cases a <;> simp only [negP] at e <;> try cases e
  cases qa.int
  exact ⟨_, rfl, A.here s (.int _)⟩

/-! ### comparisons -/
def eqP (a b : PyData) : Option PyData := if SeqAt.shaped a = true ∧ SeqAt.shaped b = true then some (.bool (PyData.eqv a b)) else none
def neP (a b : PyData) : Option PyData := if SeqAt.shaped a = true ∧ SeqAt.shaped b = true then some (.bool (!PyData.eqv a b)) else none
theorem q_eq (hu : X.A.units + 64 < cLine) : CmQ X (compareOp .Eq) eqP := by
  refine ⟨_, op_eqD hu, fun r H S x y a b z Q s qa qb e A => ?_, fun a b z e => ?_⟩
  · unfold eqP at e
    split at e
    · rename_i h
      cases e
      exact ⟨a, b, qa.dp, qb.dp, h.1, h.2, A _ rfl⟩
    · cases e
  · unfold eqP at e
    split at e
    · cases e; exact ⟨_, rfl⟩
    · cases e
theorem q_ne (hu : X.A.units + 64 < cLine) : CmQ X (compareOp .NotEq) neP := by
  refine ⟨_, op_neD hu, fun r H S x y a b z Q s qa qb e A => ?_, fun a b z e => ?_⟩
  · unfold neP at e
    split at e
    · rename_i h
      cases e
      exact ⟨a, b, qa.dp, qb.dp, h.1, h.2, A _ rfl⟩
    · cases e
  · unfold neP at e
    split at e
    · cases e; exact ⟨_, rfl⟩
    · cases e
def cmpP (p : Int → Int → Bool) : PyData → PyData → Option PyData
  | .int i, .int j => some (.bool (p i j))
  | _, _ => none
theorem q_cmp {o : CmpOp} {p : Int → Int → Bool} (h : OpR X (compareOp o) (rI0 fun i j => .bl (p i j))) : CmQ X (compareOp o) (cmpP p) := by
  refine ⟨_, h, fun r H S x y a b z Q s qa qb e A => ?_, fun a b z e => ?_⟩
  · cases a <;> cases b <;> simp only [cmpP] at e <;> try cases e
    cases qa.int; cases qb.int
    exact ⟨_, _, rfl, rfl, A _ rfl⟩
  · cases a <;> cases b <;> simp only [cmpP] at e <;> try cases e
    exact ⟨_, rfl⟩
abbrev ltP := cmpP fun i j => decide (i < j)
abbrev leP := cmpP fun i j => decide (i ≤ j)
abbrev gtP := cmpP fun i j => decide (j < i)
abbrev geP := cmpP fun i j => decide (j ≤ i)
theorem q_lt : CmQ X (compareOp .Lt) ltP := q_cmp op_lt
theorem q_le : CmQ X (compareOp .LtE) leP := q_cmp op_le
theorem q_gt : CmQ X (compareOp .Gt) gtP := q_cmp op_gt
theorem q_ge : CmQ X (compareOp .GtE) geP := q_cmp op_ge
def isNon : PyData → Bool
  | .none => true
  | _ => false
/-- is: None or bools beside it -/
def isP : PyData → PyData → Option PyData
  | a, .none => some (.bool (isNon a))
  | .bool a, .bool b => some (.bool (decide (a = b)))
  | _, _ => none
def isNotP : PyData → PyData → Option PyData
  | a, .none => some (.bool (!isNon a))
  | .bool a, .bool b => some (.bool (!decide (a = b)))
  | _, _ => none
theorem Rq.isNon {x : V} {a : PyData} (q : Rq K r H x a) : decide (x = .non) = isNon a := by
  cases a with
  | none => cases q.none; rfl
  | bool b => cases q.bool; rfl
  | int b => cases q.int; rfl
  | str b => cases q.str; rfl
  | list b => obtain ⟨_, _, rfl, _⟩ := q.list; rfl
  | tuple b => obtain ⟨_, _, rfl, _⟩ := q.tup; rfl
  | dict b =>
    rcases q with q | ⟨_, _, _, _, e, _⟩
    · cases q
    · cases e
theorem q_is : CmQ X (compareOp .Is) isP := by
  refine ⟨_, op_isN.or op_isBl, fun r H S x y a b z Q s qa qb e A => ?_, fun a b z e => ?_⟩
  · unfold isP at e
    split at e
    · cases e
      cases qb.none
      refine .inl ⟨rfl, ?_⟩
      rw [qa.isNon]; exact A _ rfl
    · cases e
      cases qa.bool; cases qb.bool
      exact .inr ⟨_, _, rfl, rfl, A _ rfl⟩
    · cases e
  · unfold isP at e
    split at e
    · cases e; exact ⟨_, rfl⟩
    · cases e; exact ⟨_, rfl⟩
    · cases e
theorem q_isNot : CmQ X (compareOp .IsNot) isNotP := by
  refine ⟨_, op_notN.or op_notBl, fun r H S x y a b z Q s qa qb e A => ?_, fun a b z e => ?_⟩
  · unfold isNotP at e
    split at e
    · cases e
      cases qb.none
      refine .inl ⟨rfl, ?_⟩
      rw [qa.isNon]; exact A _ rfl
    · cases e
      cases qa.bool; cases qb.bool
      exact .inr ⟨_, _, rfl, rfl, A _ rfl⟩
    · cases e
  · unfold isNotP at e
    split at e
    · cases e; exact ⟨_, rfl⟩
    · cases e; exact ⟨_, rfl⟩
    · cases e
/-! in -/
def flatD : PyData → Bool
  | .none | .bool _ | .int _ | .str _ => true
  | _ => false
def anyEq (a : PyData) (ds : List PyData) : Bool := ds.any fun z => PyData.eqv z a
def inP (neg : Bool) : PyData → PyData → Option PyData
  | a, .list ds => if SeqAt.shaped a = true ∧ SeqAt.shaped (.list ds) = true then some (.bool (if neg then !anyEq a ds else anyEq a ds)) else none
  | a, .tuple ds => if flatD a = true ∧ ds.all flatD = true then some (.bool (if neg then !anyEq a ds else anyEq a ds)) else none
  | _, _ => none
theorem Rp.flat {x : V} {a : PyData} (q : Rp K r H x a) (f : flatD a = true) : flatV x = true := by
  cases q <;> first | rfl | cases f
theorem Rp.eqv {x y : V} {a b : PyData} (q : Rp K r H x a) (f : flatD a = true) (q2 : Rp K r H y b) (f2 : flatD b = true) : eqV x y = PyData.eqv a b := by
  cases q <;> first | (cases f; done) | (cases q2 <;> first | (cases f2; done) | (simp [eqV, PyData.eqv]))
theorem RpAll.flat : ∀ {vs : List V} {ds : List PyData}, RpAll K r H vs ds → ds.all flatD = true → vs.all flatV = true
  | _, _, .nil, _ => rfl
  | _, _, .cons h t, f => by
    rw [List.all_cons, Bool.and_eq_true] at f ⊢
    exact ⟨h.flat f.1, RpAll.flat t f.2⟩
theorem RpAll.anyEq {x : V} {a : PyData} (q : Rp K r H x a) (f : flatD a = true) : ∀ {vs : List V} {ds : List PyData}, RpAll K r H vs ds → ds.all flatD = true → inV x vs = anyEq a ds
  | _, _, .nil, _ => rfl
  | _, _, .cons h t, g => by
    rw [List.all_cons, Bool.and_eq_true] at g
    have := RpAll.anyEq q f t g.2
    unfold inV DD.anyEq at this ⊢
    rw [List.any_cons, List.any_cons, h.eqv g.1 q f, this]
theorem Rq.flat {x : V} {a : PyData} (q : Rq K r H x a) (f : flatD a = true) : Rp K r H x a := by
  rcases q with q | ⟨_, _, _, _, rfl, _⟩
  · exact q
  · cases f
theorem q_in (hu : X.A.units + 65 < cLine) : CmQ X (compareOp .In) (inP false) := by
  refine ⟨_, (op_inD hu).or op_in_seq, fun r H S x y a b z Q s qa qb e A => ?_, fun a b z e => ?_⟩
  · unfold inP at e
    split at e
    · split at e
      · rename_i h
        cases e
        exact .inl ⟨a, _, qa.dp, qb.dp, h.1, h.2, A _ rfl⟩
      · cases e
    · rename_i ds
      split at e
      · rename_i h
        cases e
        obtain ⟨b, us, rfl, h3, h4⟩ := qb.tup
        have f := qa.flat h.1
        refine .inr ⟨b, us, rfl, .inr h3, f.flat h.1, h4.flat h.2, ?_⟩
        have := A _ rfl
        simp only [Bool.false_eq_true, if_false] at this ⊢
        rw [h4.anyEq f h.1 h.2]
        exact this
      · cases e
    · cases e
  · unfold inP at e
    split at e
    · split at e
      · cases e; exact ⟨_, rfl⟩
      · cases e
    · split at e
      · cases e; exact ⟨_, rfl⟩
      · cases e
    · cases e
theorem q_notIn (hu : X.A.units + 65 < cLine) : CmQ X (compareOp .NotIn) (inP true) := by
  refine ⟨_, (op_notInD hu).or op_notIn_seq, fun r H S x y a b z Q s qa qb e A => ?_, fun a b z e => ?_⟩
  · unfold inP at e
    split at e
    · split at e
      · rename_i h
        cases e
        exact .inl ⟨a, _, qa.dp, qb.dp, h.1, h.2, A _ rfl⟩
      · cases e
    · rename_i ds
      split at e
      · rename_i h
        cases e
        obtain ⟨b, us, rfl, h3, h4⟩ := qb.tup
        have f := qa.flat h.1
        refine .inr ⟨b, us, rfl, .inr h3, f.flat h.1, h4.flat h.2, ?_⟩
        have := A _ rfl
        simp only [if_true] at this ⊢
        rw [h4.anyEq f h.1 h.2]
        exact this
      · cases e
    · cases e
  · unfold inP at e
    split at e
    · split at e
      · cases e; exact ⟨_, rfl⟩
      · cases e
    · split at e
      · cases e; exact ⟨_, rfl⟩
      · cases e
    · cases e
/-! an item -/
def ixP : PyData → PyData → Option PyData
  | .list xs, .int i => atI xs i
  | .tuple xs, .int i => atI xs i
  | _, _ => none
theorem RpAll.atI {vs : List V} {ds : List PyData} {i : Int} {d : PyData} (h : RpAll K r H vs ds) (e : L2.atI ds i = some d) : ∃ v, L2.atI vs i = some v ∧ Rp K r H v d := by
  unfold L2.atI at e ⊢
  rw [h.length]
  cases q : ixN ds.length i with
  | none => rw [q] at e; cases e
  | some j =>
    rw [q] at e
    obtain ⟨v, h1, h2⟩ := h.get (show ds[j]? = some d from e)
    exact ⟨v, h1, h2⟩
theorem q_ix : IxQ X ixP := by
  refine ⟨_, ix_list.or ix_tup, fun r H S x y a b z Q s qa qb e A => ?_⟩
  cases a <;> cases b <;> simp only [ixP] at e <;> try cases e
  · rename_i xs i
    cases qb.int
    obtain ⟨a, vs, rfl, h1, h2⟩ := qa.list
    obtain ⟨v, e1, q⟩ := h2.atI e
    exact .inl ⟨a, vs, i, v, rfl, rfl, h1, e1, A.here s q⟩
  · rename_i xs i
    cases qb.int
    obtain ⟨a, vs, rfl, h1, h2⟩ := qa.tup
    obtain ⟨v, e1, q⟩ := h2.atI e
    exact .inr ⟨a, vs, i, v, rfl, rfl, h1, e1, A.here s q⟩
end
end DD
/-! part DP -/
set_option Elab.async false
set_option linter.all false
set_option maxRecDepth 100000
set_option maxHeartbeats 4000000
namespace DD
open PySem PySem.Spec PyProof.Rows L2 LamX

/-! ### argument lists, displays -/
def fNil : Ev → M (List Vl) := fun _ => pure []
def fCons (f : Ev → M Vl) (g : Ev → M (List Vl)) : Ev → M (List Vl) := fun ev => do
  let w ← f ev
  let ws ← g ev
  pure (w :: ws)
def dats : List Vl → Option (List PyData)
  | [] => some []
  | .d x :: ws => (dats ws).map (x :: ·)
  | _ :: _ => none
def rdAll : List Vl → M (List PyData)
  | [] => pure []
  | w :: ws => do
    let d ← rd w
    let ds ← rdAll ws
    pure (d :: ds)
def fTup (f : Ev → M (List Vl)) : Ev → M Vl := fun ev => do
  let ws ← f ev
  let ds ← M.lift (dats ws)
  if ds.length ≤ 1000 then pure (.d (.tuple ds)) else M.fail
def fLst (f : Ev → M (List Vl)) : Ev → M Vl := fun ev => do
  let ws ← f ev
  let ds ← M.lift (dats ws)
  if ds.length ≤ 1000 then pure (.d (.list ds)) else M.fail
def M.newL (ds : List PyData) : M Vl := fun S => some (.ok (.m S.length), S ++ [.l ds])
/-- a list that will be changed -/
def fMut (f : Ev → M (List Vl)) : Ev → M Vl := fun ev => do
  let ws ← f ev
  let ds ← M.lift (dats ws)
  if ds.length ≤ 1000 then M.newL ds else M.fail
inductive RqAll (K : PySem.W.Frag) (r : Lv) (H : Hp) : List V → List PyData → Prop
  | nil : RqAll K r H [] []
  | cons {v : V} {vs : List V} {d : PyData} {ds : List PyData} : Rq K r H v d → RqAll K r H vs ds → RqAll K r H (v :: vs) (d :: ds)
section
variable {α β : Type} {X : Cx} {c : Cf} {W : WX} {e a b : Expr} {es : List Expr} {f g : Ev → M Vl} {fs : Ev → M (List Vl)} {pos : Pos} {r : Lv} {σ : L2.St} {H : Hp} {S : Sto} {K : PySem.W.Frag} {mg : Str → Option Value}
theorem dats_ok : ∀ {vs : List V} {ws : List Vl} {ds : List PyData}, RwAll K mg r H vs ws → dats ws = some ds → RpAll K r H vs ds
  | _, [], _, .nil, e => by cases e; exact .nil
  | _, .d x :: ws, ds, .cons h t, e => by
    unfold dats at e
    cases q : dats ws with
    | none => rw [q] at e; cases e
    | some l =>
      rw [q] at e
      cases e
      exact .cons h (dats_ok t q)
  | _, .m n :: ws, ds, .cons h t, e => by cases e
  | _, .f n :: ws, ds, .cons h t, e => by cases e
theorem rdAll_run {R : Lv → Hp → β → α → Prop} {Q : β → Hp → Prop} : ∀ {ws : List Vl} {vs : List V} {g : List PyData → M α}, tRun X c W R r σ H S (rdAll ws >>= g) Q → StoRel (wg X) X.K r H S → RwAll X.K X.mg r H vs ws →
    ∃ ds, RqAll X.K r H vs ds ∧ tRun X c W R r σ H S (g ds) Q
  | [], _, g, h, s, .nil => ⟨[], .nil, h⟩
  | w :: ws, _, g, h, s, .cons q t => by
    have h' : tRun X c W R r σ H S (rd w >>= fun d => rdAll ws >>= fun ds => g (d :: ds)) Q := by
      obtain ⟨o, S', e, h⟩ := h
      refine ⟨o, S', ?_, h⟩
      rw [← e]
      simp only [rdAll, M.bind_run]
      cases rd w S with
      | none => rfl
      | some p =>
        obtain ⟨o1, S1⟩ := p
        cases o1 with
        | error x => rfl
        | ok d =>
          simp only
          cases rdAll ws S1 with
          | none => rfl
          | some p2 =>
            obtain ⟨o2, S2⟩ := p2
            cases o2 <;> rfl
    obtain ⟨d, qd, h1⟩ := rd_run h' s q
    obtain ⟨ds, qds, h2⟩ := rdAll_run h1 s t
    exact ⟨d :: ds, .cons qd qds, h2⟩
theorem qa_nil : QA X c W [] fNil := pa_weak pa_nil fun σ H Q h => by
  obtain ⟨r, ev, S, x, h⟩ := h
  exact h.pure rfl x.sto x.tabs .nil
theorem qa_cons (ha : QE X c W e f) (hr : QA X c W es fs) (hs : starEach (e :: es) X.env = (false, eval e X.env) :: starEach es X.env := by rfl) : QA X c W (e :: es) (fCons f fs) := pa_weak (pa_cons ha hr hs) fun σ H Q h => by
  obtain ⟨r, ev, S, x, h⟩ := h
  refine tX.of x h.bind fun v H1 ⟨r1, S1, w, e1, s1, t1, q1, h1⟩ => ?_
  have x1 := x.ext e1 s1 t1
  refine tX.of x1 h1.bind fun vs H2 ⟨r2, S2, ws, e2, s2, t2, q2, h2⟩ => ?_
  exact h2.pure rfl s2 t2 (.cons (q1.ext e2) q2)
theorem small1 {n : Nat} (h : n ≤ 1000) : n ≤ sizeLine := by rw [sizeLine_eq]; omega
theorem qe_tup {x1} (ha : QA X c W es fs) : QE X c W (.Tuple es x1 pos) (fTup fs) := pe_weak (pe_tup ha) fun σ H Q h => by
  obtain ⟨r, ev, S, x, h⟩ := h
  refine tX.of x h.bind fun vs H1 ⟨r1, S1, ws, e1, s1, t1, q1, h1⟩ => ?_
  obtain ⟨ds, ed, h2⟩ := lift_run h1
  have q2 := dats_ok q1 ed
  split at h2
  · rename_i hz
    refine ⟨by rw [q2.length]; exact small1 hz, fun p hp => ?_⟩
    exact h2.new rfl s1 t1 hp (show Rp X.K r1 _ _ _ from .tup (.inl (.inl upd_same)) (q2.ext (Ext.new (lam := false) s1.mu hp)))
  · exact (fail_run h2).elim
theorem notin_new {p : Addr} (s : StoRel wd K r H S) (hp : H p = none) : r.no p := s.no hp
theorem qe_lst (ha : QA X c W es fs) : QE X c W (.List es pos) (fLst fs) := pe_weak (pe_lst ha) fun σ H Q h => by
  obtain ⟨r, ev, S, x, h⟩ := h
  refine tX.of x h.bind fun vs H1 ⟨r1, S1, ws, e1, s1, t1, q1, h1⟩ => ?_
  obtain ⟨ds, ed, h2⟩ := lift_run h1
  have q2 := dats_ok q1 ed
  split at h2
  · rename_i hz
    refine ⟨by rw [q2.length]; exact small1 hz, fun p hp => ?_⟩
    exact h2.new rfl s1 t1 hp (show Rp X.K r1 _ _ _ from .lst (.inl ⟨upd_same, notin_new s1 hp⟩) (q2.ext (Ext.new (lam := false) s1.mu hp)))
  · exact (fail_run h2).elim
theorem qe_mut (ha : QA X c W es fs) : QE X c W (.List es pos) (fMut fs) := pe_weak (pe_lst ha) fun σ H Q h => by
  obtain ⟨r, ev, S, x, h⟩ := h
  refine tX.of x h.bind fun vs H1 ⟨r1, S1, ws, e1, s1, t1, q1, h1⟩ => ?_
  obtain ⟨ds, ed, h2⟩ := lift_run h1
  have q2 := dats_ok q1 ed
  split at h2
  · rename_i hz
    refine ⟨by rw [q2.length]; exact small1 hz, fun p hp => ?_⟩
    obtain ⟨o, S', e', h3⟩ := h2
    cases e'
    have E : Ext false r1 ⟨r1.st ++ [p], r1.hid⟩ H1 (upd H1 p (.lst vs)) := Ext.newL s1.mu hp
    exact h3 ⟨r1.st ++ [p], r1.hid⟩ (.ref p) _ E.up (s1.newL hp q2) (tabs_ext E t1) ⟨p, by show (r1.st ++ [p])[S1.length]? = some p; rw [← s1.len, List.getElem?_append_right (Nat.le_refl _)]; simp, rfl⟩
  · exact (fail_run h2).elim

/-! ### built-ins -/
def fCall (fn : List PyData → Option PyData) (fs : Ev → M (List Vl)) : Ev → M Vl := fun ev => do
  let ws ← fs ev
  let ds ← rdAll ws
  let z ← M.lift (fn ds)
  pure (.d z)
def CallQ (X : Cx) (f : Value) (fn : List PyData → Option PyData) : Prop := ∃ R, CallR X f R ∧
  ∀ r H S vs ds z Q, StoRel (wg X) X.K r H S → RqAll X.K r H vs ds → fn ds = some z → Acc X r H S z Q → R vs H Q
theorem cb_weak {R : List V → Hp → VK → Prop} {fn : List PyData → Option PyData} (hd : ∀ r H S vs ds z Q, StoRel (wg X) X.K r H S → RqAll X.K r H vs ds → fn ds = some z → Acc X r H S z Q → R vs H Q) {Q : VK} (h : tE X c W (fCall fn fs) σ H Q) : tCB R (tAs X c W fs) σ H Q := by
  obtain ⟨r, ev, S, x, h⟩ := h
  refine tX.of x h.bind fun vs H1 ⟨r1, S1, ws, e1, s1, t1, q1, h1⟩ => ?_
  obtain ⟨ds, qd, h2⟩ := rdAll_run h1 s1 q1
  obtain ⟨z, ez, h3⟩ := lift_run h2
  exact hd r1 H1 S1 vs ds z Q s1 qd ez (acc_of h3 t1)
theorem qe_callB {x : Str} {p : Pos} {id : String} {fn : List PyData → Option PyData} (hq : CallQ X (.builtin id) fn) (hg : Gl X x) (hm : X.mg x = none) (hv : bootBuiltins x = some (.builtin id)) (ha : QA X c W (e :: es) fs) (hn : x ≠ "__name__" := by decide) (hdb : (x == ("__debug__" : Str)) = false := by decide)
    (he : starEach (e :: es) X.env = (false, eval e X.env) :: starEach es X.env := by rfl) (hpl : (backTo pos (starEach es X.env)).any (·.1) = false := by rfl) : QE X c W (.Call (.Name x p) (e :: es) [] pos) (fCall fn fs) := by
  obtain ⟨R, h1, h2⟩ := hq
  exact pe_weak (pe_callB h1 hg hm hv ha hn hdb he hpl) fun σ H Q h => cb_weak h2 h
theorem qe_callTy {x : Str} {p : Pos} {T : String} {fn : List PyData → Option PyData} (hq : CallQ X (.type T) fn) (hg : Gl X x) (hm : X.mg x = none) (hv : bootBuiltins x = some (.type T)) (ha : QA X c W (e :: es) fs) (hn : x ≠ "__name__" := by decide) (hdb : (x == ("__debug__" : Str)) = false := by decide)
    (he : starEach (e :: es) X.env = (false, eval e X.env) :: starEach es X.env := by rfl) (hpl : (backTo pos (starEach es X.env)).any (·.1) = false := by rfl) : QE X c W (.Call (.Name x p) (e :: es) [] pos) (fCall fn fs) := by
  obtain ⟨R, h1, h2⟩ := hq
  exact pe_weak (pe_callTy h1 hg hm hv ha hn hdb he hpl) fun σ H Q h => cb_weak h2 h
end
section
variable {X : Cx} {r : Lv} {H : Hp} {S : Sto} {K : PySem.W.Frag}
theorem RqAll.one {vs : List V} {d : PyData} (h : RqAll K r H vs [d]) : ∃ v, vs = [v] ∧ Rq K r H v d := by
  cases h with
  | cons q t => cases t; exact ⟨_, rfl, q⟩
def lenP : List PyData → Option PyData
  | [.list xs] => some (.int xs.length)
  | [.tuple xs] => some (.int xs.length)
  | [.str x] => if x.length ≤ 1000000 then some (.int x.length) else none
  | _ => none
theorem q_len : CallQ X (.builtin "len") lenP := by
  refine ⟨_, call_len_seq.or call_len_str, fun r H S vs ds z Q s qs e A => ?_⟩
  unfold lenP at e
  split at e
  · cases e
    obtain ⟨v, rfl, q⟩ := qs.one
    obtain ⟨a, us, rfl, h1, h2⟩ := q.list
    refine .inl ⟨a, us, rfl, .inl h1, ?_⟩
    rw [h2.length]
    exact A.here s (.int _)
  · cases e
    obtain ⟨v, rfl, q⟩ := qs.one
    obtain ⟨a, us, rfl, h1, h2⟩ := q.tup
    refine .inl ⟨a, us, rfl, .inr h1, ?_⟩
    rw [h2.length]
    exact A.here s (.int _)
  · split at e
    · rename_i hz
      cases e
      obtain ⟨v, rfl, q⟩ := qs.one
      cases q.str
      exact .inr ⟨_, rfl, szl hz, A.here s (.int _)⟩
    · cases e
  · cases e
def intP : List PyData → Option PyData
  | [.int i] => some (.int i)
  | [.bool b] => some (.int (if b then 1 else 0))
  | _ => none
theorem q_int : CallQ X (.type "int") intP := by
  refine ⟨_, call_int1, fun r H S vs ds z Q s qs e A => ?_⟩
  unfold intP at e
  split at e
  · cases e
    obtain ⟨v, rfl, q⟩ := qs.one
    cases q.int
    exact .inl ⟨_, rfl, A.here s (.int _)⟩
  · cases e
    obtain ⟨v, rfl, q⟩ := qs.one
    cases q.bool
    exact .inr ⟨_, rfl, A.here s (.int _)⟩
  · cases e
def tupleP : List PyData → Option PyData
  | [.list xs] => some (.tuple xs)
  | [.tuple xs] => some (.tuple xs)
  | _ => none
theorem q_tuple : CallQ X (.type "tuple") tupleP := by
  refine ⟨_, call_tuple_of, fun r H S vs ds z Q s qs e A => ?_⟩
  unfold tupleP at e
  split at e
  · cases e
    obtain ⟨v, rfl, q⟩ := qs.one
    obtain ⟨a, us, rfl, h1, h2⟩ := q.list
    refine ⟨a, us, rfl, .inl ⟨h1, fun l hl => ?_⟩⟩
    exact A.new s hl (.tup (.inl (.inl upd_same)) (h2.ext (Ext.new (lam := false) s.mu hl)))
  · cases e
    obtain ⟨v, rfl, q⟩ := qs.one
    obtain ⟨a, us, rfl, h1, h2⟩ := q.tup
    exact ⟨a, us, rfl, .inr ⟨h1, A.here s (.tup h1 h2)⟩⟩
  · cases e
def listP : List PyData → Option PyData
  | [.list xs] => some (.list xs)
  | [.tuple xs] => some (.list xs)
  | _ => none
theorem q_list : CallQ X (.type "list") listP := by
  refine ⟨_, call_list_of, fun r H S vs ds z Q s qs e A => ?_⟩
  unfold listP at e
  split at e
  · cases e
    obtain ⟨v, rfl, q⟩ := qs.one
    obtain ⟨a, us, rfl, h1, h2⟩ := q.list
    refine ⟨a, us, rfl, .inl h1, fun l hl => ?_⟩
    exact A.new s hl (.lst (.inl ⟨upd_same, notin_new s hl⟩) (h2.ext (Ext.new (lam := false) s.mu hl)))
  · cases e
    obtain ⟨v, rfl, q⟩ := qs.one
    obtain ⟨a, us, rfl, h1, h2⟩ := q.tup
    refine ⟨a, us, rfl, .inr h1, fun l hl => ?_⟩
    exact A.new s hl (.lst (.inl ⟨upd_same, notin_new s hl⟩) (h2.ext (Ext.new (lam := false) s.mu hl)))
  · cases e
def boolsD : List PyData → Option (List Bool)
  | [] => some []
  | .bool b :: ds => (boolsD ds).map (b :: ·)
  | _ :: _ => none
theorem boolsD_ok : ∀ {vs : List V} {ds : List PyData} {bs : List Bool}, RpAll K r H vs ds → boolsD ds = some bs → vs = bs.map V.bl
  | _, [], _, .nil, e => by cases e; rfl
  | _, d :: ds, bs, .cons h t, e => by
    cases d <;> simp only [boolsD] at e <;> try cases e
    rename_i b
    cases q : boolsD ds with
    | none => rw [q] at e; cases e
    | some l =>
      rw [q] at e
      cases e
      cases h
      rw [boolsD_ok t q]; rfl
def allP : List PyData → Option PyData
  | [.list xs] => (boolsD xs).map fun bs => .bool (bs.all id)
  | _ => none
def anyP : List PyData → Option PyData
  | [.list xs] => (boolsD xs).map fun bs => .bool (bs.any id)
  | _ => none
theorem q_all (hc : X.calm = true) : CallQ X (.builtin "all") allP := by
  refine ⟨_, cr_all hc, fun r H S vs ds z Q s qs e A => ?_⟩
  unfold allP at e
  split at e
  · obtain ⟨v, rfl, q⟩ := qs.one
    obtain ⟨a, us, rfl, h1, h2⟩ := q.list
    obtain ⟨bs, eb, rfl⟩ := Option.map_eq_some_iff.mp e
    refine ⟨a, bs, rfl, ?_, A.here s (.bl _)⟩
    rw [← boolsD_ok h2 eb]; exact h1
  · cases e
theorem q_any (hc : X.calm = true) : CallQ X (.builtin "any") anyP := by
  refine ⟨_, cr_any hc, fun r H S vs ds z Q s qs e A => ?_⟩
  unfold anyP at e
  split at e
  · obtain ⟨v, rfl, q⟩ := qs.one
    obtain ⟨a, us, rfl, h1, h2⟩ := q.list
    obtain ⟨bs, eb, rfl⟩ := Option.map_eq_some_iff.mp e
    refine ⟨a, bs, rfl, ?_, A.here s (.bl _)⟩
    rw [← boolsD_ok h2 eb]; exact h1
  · cases e
def intsD : List PyData → Option (List Int)
  | [] => some []
  | .int b :: ds => (intsD ds).map (b :: ·)
  | _ :: _ => none
theorem intsD_ok : ∀ {vs : List V} {ds : List PyData} {bs : List Int}, RpAll K r H vs ds → intsD ds = some bs → vs = bs.map V.int ∧ ds = bs.map PyData.int
  | _, [], _, .nil, e => by cases e; exact ⟨rfl, rfl⟩
  | _, d :: ds, bs, .cons h t, e => by
    cases d <;> simp only [intsD] at e <;> try cases e
    rename_i b
    cases q : intsD ds with
    | none => rw [q] at e; cases e
    | some l =>
      rw [q] at e
      cases e
      cases h
      obtain ⟨h1, h2⟩ := intsD_ok t q
      rw [h1, h2]; exact ⟨rfl, rfl⟩
def sumP : List PyData → Option PyData
  | [.list xs] => (intsD xs).map fun ns => .int ns.sum
  | [.tuple xs] => (intsD xs).map fun ns => .int ns.sum
  | _ => none
end
end DD
/-! part DS -/
set_option Elab.async false
set_option linter.all false
set_option maxRecDepth 100000
set_option maxHeartbeats 4000000
namespace DD
open PySem PySem.Spec PyProof.Rows L2 LamX

/-! ### isinstance -/
inductive Ty where
  | int | bool | str | tup | lst
def Ty.nm : Ty → String
  | .int => "int" | .bool => "bool" | .str => "str" | .tup => "tuple" | .lst => "list"
def isiB : Ty → PyData → Bool
  | .int, .int _ => true
  | .int, .bool _ => true
  | .bool, .bool _ => true
  | .str, .str _ => true
  | .tup, .tuple _ => true
  | .lst, .list _ => true
  | _, _ => false
def tyN : PyData → String
  | .none => "NoneType" | .bool _ => "bool" | .int _ => "int" | .str _ => "str" | .list _ => "list" | .tuple _ => "tuple" | .dict _ => "dict"
theorem kitB_is (T : Ty) (d : PyData) : kitB (tyN d) T.nm = some (isiB T d) := by
  cases T <;> cases d <;> simp only [tyN, Ty.nm, isiB] <;> decide +kernel
def isiP (T : Ty) (d : PyData) : Option PyData := some (.bool (isiB T d))
def isiP2 (T U : Ty) (d : PyData) : Option PyData := some (.bool (isiB T d || isiB U d))
section
variable {X : Cx} {c : Cf} {W : WX} {e : Expr} {f : Ev → M Vl} {r : Lv} {H : Hp} {K : PySem.W.Frag}
theorem Rq.ty {x : V} {d : PyData} (q : Rq K r H x d) : TyX K H x (.type (tyN d)) := by
  rcases q with q | ⟨a, vs, ds, rfl, rfl, h, _⟩
  · cases q with
    | non => exact .base .non
    | bl b => exact .base (.bl b)
    | int i => exact .base (.int i)
    | str i => exact .base (.str i)
    | lst h _ =>
      rcases h with ⟨h, _⟩ | ⟨o, h⟩ | ⟨o, its, n, h1, h2, _⟩
      · exact .base (.lst h)
      · exact .base (.frz h)
      · exact .kList h1 h2
    | tup h _ =>
      rcases h with (h | ⟨o, h⟩) | ⟨o, its, n, h1, h2, h3⟩
      · exact .base (.tup h)
      · exact .fTuple h
      · exact .kTuple h1 h2
  · exact .base (.lst h)
theorem qe_isi (T : Ty) {p p2 pos : Pos} (ha : QE X c W e f) (hg : Gl X "isinstance") (hm : X.mg "isinstance" = none) (hgT : Gl X (Str.ofString T.nm)) (hmT : X.mg (Str.ofString T.nm) = none)
    (hbT : bootBuiltins (Str.ofString T.nm) = some (.type T.nm)) (hnT : Str.ofString T.nm ≠ "__name__") (hdT : (Str.ofString T.nm == ("__debug__" : Str)) = false)
    (hs : starEach (e :: [.Name (Str.ofString T.nm) p2]) X.env = (false, eval e X.env) :: starEach [.Name (Str.ofString T.nm) p2] X.env := by rfl)
    (hpl : (backTo pos (starEach [.Name (Str.ofString T.nm) p2] X.env)).any (·.1) = false := by rfl) :
    QE X c W (.Call (.Name "isinstance" p) [e, .Name (Str.ofString T.nm) p2] [] pos) (fUn (isiP T) f) := by
  have h := pe_callB (X := X) (pos := pos) (p := p) call_isi hg hm boot_isinstance (pa_cons ha (pa_cons (pe_bltn (v := .ty T.nm) (pos := p2) hgT hmT hbT rfl hnT hdT) pa_nil (by rfl)) hs) (by decide) (by decide) hs hpl
  refine pe_weak h fun σ H Q h => ?_
  obtain ⟨r, ev, S, x, h⟩ := h
  refine tX.of x h.bind fun v H1 ⟨r1, S1, w, e1, s1, t1, q1, h1⟩ => ?_
  obtain ⟨d, qd, h2⟩ := rd_run h1 s1 q1
  obtain ⟨z, ez, h3⟩ := lift_run h2
  cases ez
  exact ⟨v, .ty T.nm, _, _, _, rfl, .ty _, qd.ty, kit_ty (kitB_is T d), (acc_of h3 t1).here s1 (.bl _)⟩
theorem qe_isi2 (T U : Ty) {p p2 p3 p4 pos : Pos} {k : Nat} (ha : QE X c W e f) (hg : Gl X "isinstance") (hm : X.mg "isinstance" = none) (hgT : Gl X (Str.ofString T.nm)) (hmT : X.mg (Str.ofString T.nm) = none)
    (hbT : bootBuiltins (Str.ofString T.nm) = some (.type T.nm)) (hnT : Str.ofString T.nm ≠ "__name__") (hdT : (Str.ofString T.nm == ("__debug__" : Str)) = false)
    (hgU : Gl X (Str.ofString U.nm)) (hmU : X.mg (Str.ofString U.nm) = none) (hbU : bootBuiltins (Str.ofString U.nm) = some (.type U.nm)) (hnU : Str.ofString U.nm ≠ "__name__") (hdU : (Str.ofString U.nm == ("__debug__" : Str)) = false)
    (hs : starEach (e :: [.Tuple [.Name (Str.ofString T.nm) p2, .Name (Str.ofString U.nm) p3] k p4]) X.env = (false, eval e X.env) :: starEach [.Tuple [.Name (Str.ofString T.nm) p2, .Name (Str.ofString U.nm) p3] k p4] X.env := by rfl)
    (hpl : (backTo pos (starEach [.Tuple [.Name (Str.ofString T.nm) p2, .Name (Str.ofString U.nm) p3] k p4] X.env)).any (·.1) = false := by rfl) :
    QE X c W (.Call (.Name "isinstance" p) [e, .Tuple [.Name (Str.ofString T.nm) p2, .Name (Str.ofString U.nm) p3] k p4] [] pos) (fUn (isiP2 T U) f) := by
  have h := pe_callB (X := X) (pos := pos) (p := p) call_isiT hg hm boot_isinstance (pa_cons ha (pa_cons (pe_tup (x1 := k) (pos := p4) (pa_cons (pe_bltn (v := .ty T.nm) (pos := p2) hgT hmT hbT rfl hnT hdT) (pa_cons (pe_bltn (v := .ty U.nm) (pos := p3) hgU hmU hbU rfl hnU hdU) pa_nil (by rfl)) (by rfl))) pa_nil (by rfl)) hs) (by decide) (by decide) hs hpl
  refine pe_weak h fun σ H Q h => ?_
  obtain ⟨r, ev, S, x, h⟩ := h
  refine tX.of x h.bind fun v H1 ⟨r1, S1, w, e1, s1, t1, q1, h1⟩ => ?_
  obtain ⟨d, qd, h2⟩ := rd_run h1 s1 q1
  obtain ⟨z, ez, h3⟩ := lift_run h2
  cases ez
  refine ⟨by show 2 ≤ sizeLine; decide, fun tp hp => ?_⟩
  have E : Ext false r1 r1 H1 (upd H1 tp (.tup [.ty T.nm, .ty U.nm])) := Ext.new s1.mu hp
  have qd' : Rq X.K r1 (upd H1 tp (.tup [.ty T.nm, .ty U.nm])) v d := by
    rcases qd with q | ⟨a, vs, ds, rfl, rfl, h, t⟩
    · exact .inl (q.ext E)
    · exact .inr ⟨a, vs, ds, rfl, rfl, by rw [upd_ne (ne_of_none h hp)]; exact h, t.ext E⟩
  refine ⟨v, tp, _, _, _, isiB T d || isiB U d, rfl, upd_same, .cons (.ty _) (.cons (.ty _) .nil), qd'.ty, ?_, (acc_of h3 t1).new s1 hp (.bl _)⟩
  refine kitAny_cons (kit_ty (kitB_is T d)) (fun hb => ?_) fun hb => by rw [hb]; rfl
  rw [hb, Bool.false_or]
  refine kitAny_cons (kit_ty (kitB_is U d)) (fun hb2 => ?_) fun hb2 => by rw [hb2]
  rw [hb2]; exact kitAny_nil
end

/-! ### defs -/
def spM (wd : World) (K : PySem.W.Frag) (mg : Str → Option Value) (n : Nat) (m : List Vl → M Vl) : Sp := fun vs H Q E => vs.length = n ∧ ∃ r S ws o S', StoRel ⟨wd, mg⟩ K r H S ∧ RwAll K mg r H vs ws ∧ m ws S = some (o, S') ∧ match o with
  | .ok w => ∀ r' v H', Ext false r r' H H' → StoRel ⟨wd, mg⟩ K r' H' S' → Rw K mg r' H' v w → Q v H'
  | .error x => ∃ C, mg x = some (.ref C) ∧ ∀ r' H', Ext false r r' H H' → StoRel ⟨wd, mg⟩ K r' H' S' → E (.ref C) none H'
/-- at x stands a def of n parameters that is read as m, at level k -/
def Has (P : Program) (w : World) (K : PySem.W.Frag) (mg : Str → Option Value) (base : Heap) (k : Nat) (x : Str) (n : Nat) (m : List Vl → M Vl) : Prop :=
  ∃ f fd ps, mg x = some (.ref f) ∧ PySem.W.keepIn K (.ref f) = true ∧ Binds K fd ps [] ∧ FnOk P w K mg base (L2.CX P w) k f fd ps (spM w K mg n m)
abbrev HasX (X : Cx) (k : Nat) (x : Str) (n : Nat) (m : List Vl → M Vl) : Prop := Has X.prog X.w X.K X.mg X.base k x n m
def fDef (n : Nat) (m : List Vl → M Vl) (fs : Ev → M (List Vl)) : Ev → M Vl := fun ev => do
  let ws ← fs ev
  if ws.length = n then m ws else M.fail
section
variable {X : Cx} {c : Cf} {W : WX} {e : Expr} {es : List Expr} {f : Ev → M Vl} {fs : Ev → M (List Vl)}
theorem Has.mono {P : Program} {w : World} {K : PySem.W.Frag} {mg : Str → Option Value} {base : Heap} {k j n : Nat} {x : Str} {m : List Vl → M Vl} (h : Has P w K mg base k x n m) (hj : k ≤ j) : Has P w K mg base j x n m := by
  obtain ⟨f, fd, ps, h1, h2, h3, h4⟩ := h
  exact ⟨f, fd, ps, h1, h2, h3, h4.mono hj⟩
theorem sp_of {r : Lv} {σ : L2.St} {H : Hp} {S : Sto} {n : Nat} {m : List Vl → M Vl} {vs : List V} {ws : List Vl} {Q : VK} (h : tRun X c W (Rw X.K X.mg) r σ H S (m ws) Q) (s : StoRel (wg X) X.K r H S) (t : Tabs c.T H) (q : RwAll X.K X.mg r H vs ws) (hn : ws.length = n) : spM X.w X.K X.mg n m vs H Q (WE W σ) := by
  obtain ⟨o, S', e, h⟩ := h
  refine ⟨by rw [q.length]; exact hn, r, S, ws, o, S', s, q, e, ?_⟩
  cases o with
  | ok w => exact fun r' v H' E s' q' => h r' v H' E.up s' (tabs_ext E t) q'
  | error x =>
    obtain ⟨C, hC, h⟩ := h
    exact ⟨C, hC, fun r' H' E s' => h r' H' E.up s' (tabs_ext E t)⟩
theorem qe_call {x : Str} {k n : Nat} {m : List Vl → M Vl} {p pos : Pos} (F : HasX X k x n m) (hr : Room k X.A) (tk : Takes X W) (hg : Gl X x) (ha : QA X c W (e :: es) fs) (hdb : (x == ("__debug__" : Str)) = false := by decide)
    (he : starEach (e :: es) X.env = (false, eval e X.env) :: starEach es X.env := by rfl) (hpl : (backTo pos (starEach es X.env)).any (·.1) = false := by rfl) : QE X c W (.Call (.Name x p) (e :: es) [] pos) (fDef n m fs) := by
  obtain ⟨f, fd, ps, h1, h2, h3, h4⟩ := F
  refine pe_weak (pe_callS h4 hr hg h1 h2 h3 (fun σ => passAt tk σ) ha hdb he hpl) fun σ H Q h => ?_
  obtain ⟨r, ev, S, x, h⟩ := h
  refine tX.of x h.bind fun vs H1 ⟨r1, S1, ws, e1, s1, t1, q1, h1⟩ => ?_
  split at h1
  · rename_i hn
    exact sp_of h1 s1 t1 q1 hn
  · exact (fail_run h1).elim
end

/-! ### slices -/
def cutD (xs : List PyData) (lo hi : Option Int) : List PyData := (xs.drop (HT.sIx xs.length 0 lo)).take (HT.sIx xs.length xs.length hi - HT.sIx xs.length 0 lo)
def slP (lo hi : Option Int) : PyData → Option PyData
  | .list xs => some (.list (cutD xs lo hi))
  | .tuple xs => some (.tuple (cutD xs lo hi))
  | _ => none
def oI (f : Ev → M Vl) : Ev → M (Option Int) := fun ev => do
  match ← f ev with
  | .d (.int i) => pure (some i)
  | _ => M.fail
def oN : Ev → M (Option Int) := fun _ => pure none
def fSl (f : Ev → M Vl) (lo hi : Ev → M (Option Int)) : Ev → M Vl := fun ev => do
  let x ← f ev
  let l ← lo ev
  let u ← hi ev
  let a ← rd x
  let z ← M.lift (slP l u a)
  pure (.d z)
def Ro : Lv → Hp → Option Int → Option Int → Prop := fun _ _ b a => b = a
def QO (X : Cx) (c : Cf) (W : WX) (o : Option Expr) (f : Ev → M (Option Int)) : Prop := PO X o (tX X c W Ro f)
section
variable {X : Cx} {c : Cf} {W : WX} {e : Expr} {f : Ev → M Vl}
theorem po_weak {X : Cx} {o : Option Expr} {t t' : TO} (h : PO X o t) (k : ∀ σ H Q, t' σ H Q → t σ H Q) : PO X o t' := by
  obtain ⟨h⟩ := h
  exact ⟨fun pins s σ H Q I q => h pins s σ H Q I (k _ _ _ q)⟩
theorem qo_none : QO X c W none oN := po_weak po_none fun σ H Q h => by
  obtain ⟨r, ev, S, x, h⟩ := h
  exact h.pure rfl x.sto x.tabs rfl
theorem qo_some (h : QE X c W e f) : QO X c W (some e) (oI f) := po_weak (po_some h) fun σ H Q h => by
  obtain ⟨r, ev, S, x, h⟩ := h
  refine tX.of x h.bind fun v H1 ⟨r1, S1, w, e1, s1, t1, q1, h1⟩ => ?_
  try dsimp only at h1
  split at h1
  · cases q1
    exact ⟨_, rfl, h1.pure rfl s1 t1 rfl⟩
  · exact (fail_run h1).elim
def rSlR (K : PySem.W.Frag) : V → Option Int → Option Int → Hp → VK → Prop := fun x l u H Q => rSlA K x l u H Q ∨ rSlL K x l u H Q
theorem RpAll.cut {K : PySem.W.Frag} {r : Lv} {H : Hp} {vs : List V} {ds : List PyData} (h : RpAll K r H vs ds) (lo hi : Option Int) : RpAll K r H (cutV vs lo hi) (cutD ds lo hi) := by
  unfold cutV cutD
  rw [h.length]
  exact (h.drop _).take _
theorem qe_slice {lo hi : Option Expr} {fl fh : Ev → M (Option Int)} {pos p2 : Pos} (he : QE X c W e f) (hl : QO X c W lo fl) (hh : QO X c W hi fh) : QE X c W (.Subscript e (.Slice lo hi none p2) pos) (fSl f fl fh) := by
  refine pe_weak (pe_slice (sl_tupA.or sl_list) he hl hh) fun σ H Q h => ?_
  obtain ⟨r, ev, S, x, h⟩ := h
  refine tX.of x h.bind fun v H1 ⟨r1, S1, w, e1, s1, t1, q1, h1⟩ => ?_
  have x1 := x.ext e1 s1 t1
  refine tX.of x1 h1.bind fun l H2 ⟨r2, S2, l', e2, s2, t2, q2, h2⟩ => ?_
  have x2 := x1.ext e2 s2 t2
  refine tX.of x2 h2.bind fun u H3 ⟨r3, S3, u', e3, s3, t3, q3, h3⟩ => ?_
  cases q2; cases q3
  obtain ⟨a, qa, h4⟩ := rd_run h3 s3 ((q1.ext e2).ext e3)
  obtain ⟨z, ez, h5⟩ := lift_run h4
  have A := acc_of h5 t3
  unfold slP at ez
  split at ez
  · cases ez
    obtain ⟨a, vs, rfl, h1, h2⟩ := qa.list
    refine .inr ⟨a, vs, rfl, h1, fun p hp => ?_⟩
    exact A.new s3 hp (.lst (.inl ⟨upd_same, notin_new s3 hp⟩) ((h2.cut _ _).ext (Ext.new (lam := false) s3.mu hp)))
  · cases ez
    obtain ⟨a, vs, rfl, h1, h2⟩ := qa.tup
    refine .inl ⟨a, vs, rfl, h1, fun hw => ?_, fun _ p hp => ?_⟩
    · refine A.here s3 (.tup h1 ?_)
      unfold cutD
      rw [h2.length] at hw
      rw [hw.1, hw.2]
      simpa using h2
    · exact A.new s3 hp (.tup (.inl (.inl upd_same)) ((h2.cut _ _).ext (Ext.new (lam := false) s3.mu hp)))
  · cases ez
end
end DD
/-! part DT -/
set_option Elab.async false
set_option linter.all false
set_option maxRecDepth 100000
set_option maxHeartbeats 4000000
namespace DD
open PySem PySem.Spec PyProof.Rows L2 LamX

inductive Fl where
  | nx | bk | ct | rt (w : Vl) | ex (x : Str)
abbrev SM := Ev → Sto → Option (Fl × Ev × Sto)
def endP (X : Cx) (c : Cf) (W : WX) (r : Lv) (H : Hp) (D : Ends) (ev : Ev) (S : Sto) : Fl → Prop
  | .nx => ∀ r' σ' H', Ext c.lam r r' H H' → Rel X c r' σ' H' ev S → D.nx σ' H'
  | .bk => ∀ r' σ' H', Ext c.lam r r' H H' → Rel X c r' σ' H' ev S → D.bk σ' H'
  | .ct => ∀ r' σ' H', Ext c.lam r r' H H' → Rel X c r' σ' H' ev S → D.ct σ' H'
  | .rt w => ∀ r' v H', Ext c.lam r r' H H' → StoRel (wg X) X.K r' H' S → Tabs c.T H' → Rw X.K X.mg r' H' v w → D.rt v H'
  | .ex x => ∃ C, X.mg x = some (.ref C) ∧ ∀ r' σ' H', Ext c.lam r r' H H' → Rel X c r' σ' H' ev S → W (.ref C) none σ' H'
/-- from (r, σ, H, ev, S) -/
def sRun (X : Cx) (c : Cf) (W : WX) (r : Lv) (H : Hp) (D : Ends) (o : Option (Fl × Ev × Sto)) : Prop := ∃ fl ev' S', o = some (fl, ev', S') ∧ endP X c W r H D ev' S' fl
def tS (X : Cx) (c : Cf) (W : WX) (f : SM) : TS := fun D σ H => ∃ r ev S, Rel X c r σ H ev S ∧ sRun X c W r H D (f ev S)
def QS (X : Cx) (c : Cf) (W : WX) (st : Stmt) (f : SM) : Prop := PS X st (tS X c W f)
def QSs (X : Cx) (c : Cf) (W : WX) (st : List Stmt) (f : SM) : Prop := PSs X st (tS X c W f)
theorem ps_weak {X : Cx} {st : Stmt} {t t' : TS} (h : PS X st t) (k : ∀ D σ H, t' D σ H → t D σ H) : PS X st t' := ⟨fun pins s σ H D I q => h.run pins s σ H D I (k _ _ _ q)⟩
theorem pss_weak {X : Cx} {st : List Stmt} {t t' : TS} (h : PSs X st t) (k : ∀ D σ H, t' D σ H → t D σ H) : PSs X st t' := ⟨fun pins s σ H D I q => h.run pins s σ H D I (k _ _ _ q)⟩
section
variable {X : Cx} {c : Cf} {W : WX} {r r1 r2 : Lv} {σ : L2.St} {H H1 H2 : Hp} {S S1 : Sto} {ev : Ev} {D : Ends}
theorem endP.ext {fl : Fl} (e : Ext c.lam r r1 H H1) (h : endP X c W r H D ev S fl) : endP X c W r1 H1 D ev S fl := by
  cases fl with
  | nx => exact fun r' σ' H' e' x => h r' σ' H' (e.trans e') x
  | bk => exact fun r' σ' H' e' x => h r' σ' H' (e.trans e') x
  | ct => exact fun r' σ' H' e' x => h r' σ' H' (e.trans e') x
  | rt w => exact fun r' v H' e' s t q => h r' v H' (e.trans e') s t q
  | ex x =>
    obtain ⟨C, hC, h⟩ := h
    exact ⟨C, hC, fun r' σ' H' e' x => h r' σ' H' (e.trans e') x⟩
theorem sRun.ext {o : Option (Fl × Ev × Sto)} (e : Ext c.lam r r1 H H1) (h : sRun X c W r H D o) : sRun X c W r1 H1 D o := by
  obtain ⟨fl, ev', S', e1, h⟩ := h
  exact ⟨fl, ev', S', e1, h.ext e⟩
/-- an expression first: what it gives, then the rest; what it raises leaves -/
def onE {α : Type} (m : M α) (ev : Ev) (k : α → Sto → Option (Fl × Ev × Sto)) (S : Sto) : Option (Fl × Ev × Sto) := match m S with
  | none => none
  | some (.error x, S') => some (.ex x, ev, S')
  | some (.ok a, S') => k a S'
theorem sRun.onE {α β : Type} {R : Lv → Hp → β → α → Prop} {m : M α} {k : α → Sto → Option (Fl × Ev × Sto)} (x : Rel X c r σ H ev S) (h : sRun X c W r H D (onE m ev k S)) :
    tRun X c W R r σ H S m (fun b H1 => ∃ r1 S1 a, Ext c.lam r r1 H H1 ∧ Rel X c r1 σ H1 ev S1 ∧ R r1 H1 b a ∧ sRun X c W r1 H1 D (k a S1)) := by
  obtain ⟨fl, ev', S', e, h⟩ := h
  unfold DD.onE at e
  cases q : m S with
  | none => rw [q] at e; cases e
  | some p =>
    obtain ⟨o, S1⟩ := p
    rw [q] at e
    cases o with
    | error y =>
      cases e
      obtain ⟨C, hC, h⟩ := h
      exact ⟨.error y, _, q, C, hC, fun r' H' e s t => h r' σ H' e (x.ext e s t)⟩
    | ok a =>
      exact ⟨.ok a, S1, q, fun r' b H' e1 s1 t1 q1 => ⟨r', S1, a, e1, x.ext e1 s1 t1, q1, fl, ev', S', e, h.ext e1⟩⟩
theorem sRun.nx (h : sRun X c W r H D (some (.nx, ev, S))) (x : Rel X c r σ H ev S) : D.nx σ H := by
  obtain ⟨fl, ev', S', e, h⟩ := h
  cases e
  exact h r σ H x.sto.refl x
/-! the statements -/
def sPass : SM := fun ev S => some (.nx, ev, S)
def sBreak : SM := fun ev S => some (.bk, ev, S)
def sCont : SM := fun ev S => some (.ct, ev, S)
def sSeq (f g : SM) : SM := fun ev S => match f ev S with
  | some (.nx, ev', S') => g ev' S'
  | o => o
def sExpr (f : Ev → M Vl) : SM := fun ev => onE (f ev) ev fun _ S => some (.nx, ev, S)
def sRet (f : Ev → M Vl) : SM := fun ev => onE (f ev) ev fun w S => some (.rt w, ev, S)
def sRetN : SM := fun ev S => some (.rt (.d .none), ev, S)
def sIf (t : Ev → M Bool) (f g : SM) : SM := fun ev => onE (t ev) ev fun b S => if b then f ev S else g ev S
def sSet (i : Nat) (f : Ev → M Vl) : SM := fun ev => onE (f ev) ev fun w S => some (.nx, ev.set i (some w), S)
def sRaise (x : Str) : SM := fun ev S => some (.ex x, ev, S)
variable {st : Stmt} {rest sts sts2 : List Stmt} {f g : SM} {fe ge : Ev → M Vl} {e a b : Expr} {pos : Pos} {t : Ev → M Bool}
theorem qss_nil : QSs X c W [] sPass := pss_weak pss_nil fun D σ H ⟨r, ev, S, x, h⟩ => h.nx x
theorem seq_weak {D : Ends} {σ : L2.St} {H : Hp} (h : tS X c W (sSeq f g) D σ H) : tSeq (tS X c W f) (tS X c W g) D σ H := by
  obtain ⟨r, ev, S, x, fl, ev', S', e, h⟩ := h
  unfold sSeq at e
  cases q : f ev S with
  | none => rw [q] at e; cases e
  | some p =>
    obtain ⟨fl1, ev1, S1⟩ := p
    rw [q] at e
    refine ⟨r, ev, S, x, fl1, ev1, S1, q, ?_⟩
    cases fl1 with
    | nx => exact fun r' σ' H' e1 x1 => ⟨r', ev1, S1, x1, fl, ev', S', e, h.ext e1⟩
    | bk => cases e; exact h
    | ct => cases e; exact h
    | rt w => cases e; exact h
    | ex y => cases e; exact h
theorem qss_cons (h1 : QS X c W st f) (h2 : QSs X c W rest g) : QSs X c W (st :: rest) (sSeq f g) := pss_weak (pss_cons h1 h2) fun D σ H h => seq_weak h
theorem qss_one (h1 : QS X c W st f) : QSs X c W [st] f := pss_weak (pss_one h1) fun D σ H h => h
theorem qs_pass : QS X c W (.Pass pos) sPass := ps_weak ps_pass fun D σ H ⟨r, ev, S, x, h⟩ => h.nx x
theorem qs_break : QS X c W (.Break pos) sBreak := ps_weak ps_break fun D σ H ⟨r, ev, S, x, fl, ev', S', e, h⟩ => by
  cases e
  exact h r σ H x.sto.refl x
theorem qs_continue : QS X c W (.Continue pos) sCont := ps_weak ps_continue fun D σ H ⟨r, ev, S, x, fl, ev', S', e, h⟩ => by
  cases e
  exact h r σ H x.sto.refl x
theorem qs_expr (he : QE X c W e fe) (hs : swapsWith e none pos.line X.env = pure false := by rfl) : QS X c W (.Expr e pos) (sExpr fe) := ps_weak (ps_expr he hs) fun D σ H ⟨r, ev, S, x, h⟩ =>
  tX.of x (h.onE x) fun v H1 ⟨r1, S1, w, e1, x1, q1, h1⟩ => h1.nx x1
theorem qs_ret (he : QE X c W e fe) : QS X c W (.Return (some e) pos) (sRet fe) := ps_weak (ps_ret he) fun D σ H ⟨r, ev, S, x, h⟩ =>
  tX.of x (h.onE x) fun v H1 ⟨r1, S1, w, e1, x1, q1, fl, ev', S', e', h1⟩ => by
    cases e'
    exact h1 r1 v H1 x1.sto.refl x1.sto x1.tabs q1
theorem qs_retN : QS X c W (.Return none pos) sRetN := ps_weak ps_retN fun D σ H ⟨r, ev, S, x, fl, ev', S', e', h1⟩ => by
  cases e'
  exact h1 r .non H x.sto.refl x.sto x.tabs (show Rp X.K r H .non .none from .non)
theorem qs_if {cc : Expr} (hc : QT X c W cc t) (ha : QSs X c W sts f) (hb : QSs X c W sts2 g) : QS X c W (.If cc sts sts2 pos) (sIf t f g) := ps_weak (ps_if hc ha hb) fun D σ H ⟨r, ev, S, x, h⟩ =>
  tX.of x (h.onE x) fun v H1 ⟨r1, S1, w, e1, x1, q1, h1⟩ => by
    cases q1
    cases v with
    | true => exact ⟨r1, ev, S1, x1, h1⟩
    | false => exact ⟨r1, ev, S1, x1, h1⟩
theorem Rel.set {i : Nat} {x : Str} {v : V} {w : Vl} (q : Rel X c r σ H ev S) (hi : X.N[i]? = some x) (hw : Rw X.K X.mg r H v w) : Rel X c r (σ.set i (some v)) H (ev.set i (some w)) S :=
  ⟨q.sto, q.tabs, q.ev.set hw (by rw [q.len]; exact (List.getElem?_eq_some_iff.mp hi).1), by rw [List.length_set]; exact q.len⟩
theorem qs_set (i : Nat) {x : Str} {pos' : Pos} (hN : X.N.Nodup) (he : QE X c W e fe) (hi : X.N[i]? = some x := by rfl) (hx : Loc X.env.scope x := by first | exact Or.inl rfl | exact Or.inr rfl)
    (hs : swapsWith e (some (.Name x pos')) pos.line X.env = pure false := by rfl) (hf : X.fn x = true ∨ X.env.scope.names.lookup x = some .local := by first | exact .inl rfl | exact .inr rfl | assumption) :
    QS X c W (.Assign [.Name x pos'] e pos) (sSet i fe) := ps_weak (ps_set hN hi hx he hs hf) fun D σ H ⟨r, ev, S, x', h⟩ =>
  tX.of x' (h.onE x') fun v H1 ⟨r1, S1, w, e1, x1, q1, h1⟩ => h1.nx (x1.set hi q1)
/-- X(), X an own exception class without own __init__ -/
theorem pmk_own0 {C : Addr} {bmB : List Value} {B newId initId : String} {x : Str} {p : Pos} (F : ExcBaseFacts B newId initId bmB) (q : PySem.W.excIn X.K C bmB newId = true) (gC : X.mg x = some (.ref C))
    (kC : PySem.W.keepIn X.K (.ref C) = true) (r : Raises X (.ref C)) (hg : Gl X x) (hdb : (x == ("__debug__" : Str)) = false := by decide) :
    PMk X (.Call (.Name x p) [] [] pos) (fun σ H Q => Q (.ref C) none H) := by
  intro pins s σ H Q I h
  refine wpAny_Call_Name_kw (ld_glob I hg gC ?_ hdb)
  refine PySem.W.callWith_K0 I.kIn kC ?_
  show wpAny _ _ (call (.ref C) []) _ _ _
  obtain ⟨bm, N, nm, qn, bs, hdct, sn, sub, ab, col, dd, k0, k1, k2, k3, k5, mN, hC, hN, hni, T⟩ := exc_obj I.kIn q
  refine wpAny_call_exc_subT F T hC hN hni (fun h' e hm => ?_) (by show 0 ≤ sizeLine; omega)
  exact mk_of I hm r h (I.hok.gone hm.new)
/-- an own error class without __init__, over ValueError -/
structure Exo (K : PySem.W.Frag) (mg : Str → Option Value) (x : Str) : Prop where
  ex : ∃ C, mg x = some (.ref C) ∧ PySem.W.excIn K C [.type "ValueError", .type "Exception", .type "BaseException", .type "object"] "ValueError.__new__" = true ∧ PySem.W.keepIn K (.ref C) = true ∧ PySem.W.subIn K (.ref C) (.type "BaseException") = some true ∧ PySem.W.typeIn K (.ref C) = some (.type "type")
theorem qs_raise {x : Str} {p p2 : Pos} (hc : X.calm = true) (tk : Takes X W) (E : Exo X.K X.mg x) (hg : Gl X x) (hdb : (x == ("__debug__" : Str)) = false := by decide) : QS X c W (.Raise (some (.Call (.Name x p) [] [] p2)) none pos) (sRaise x) := by
  obtain ⟨C, gC, xC, kC, sC, tC⟩ := E.ex
  refine ps_weak (ps_raise hc tk (pmk_own0 PySem.F.excBase_ValueError xC gC kC (raises_own sC tC) hg hdb)) fun D σ H ⟨r, ev, S, x', fl, ev', S', e', h1⟩ => ?_
  cases e'
  obtain ⟨C', gC', h⟩ := h1
  rw [gC] at gC'
  cases gC'
  exact h r σ H x'.sto.refl x'
end
end DD
/-! part DU -/
set_option Elab.async false
set_option linter.all false
set_option maxRecDepth 100000
set_option maxHeartbeats 4000000
namespace DD
open PySem PySem.Spec PyProof.Rows L2 LamX

/-! ### mutable lists -/
/-- a mutable list's place -/
def mutAt : Vl → M (Nat × List PyData)
  | .m n => fun S => match S[n]? with
    | some (.l xs) => some (.ok (n, xs), S)
    | _ => none
  | _ => M.fail
def putAt (n : Nat) (xs : List PyData) : M Vl := fun S => some (.ok (.d .none), S.set n (.l xs))
def datOf : Vl → Option PyData
  | .d x => some x
  | _ => none
def intOf : Vl → Option Int
  | .d (.int i) => some i
  | _ => none
section
variable {α β : Type} {X : Cx} {c : Cf} {W : WX} {r r1 r2 : Lv} {σ : L2.St} {H H1 H2 : Hp} {S S1 : Sto} {ev : Ev} {D : Ends} {fe ge he : Ev → M Vl} {e a b o i : Expr} {es : List Expr} {pos tpos : Pos}
theorem mutAt_run {R : Lv → Hp → β → α → Prop} {g : Nat × List PyData → M α} {w : Vl} {v : V} {Q : β → Hp → Prop} (h : tRun X c W R r σ H S (mutAt w >>= g) Q) (s : StoRel (wg X) X.K r H S) (q : Rw X.K X.mg r H v w) :
    ∃ n a xs vs, r.st[n]? = some a ∧ v = .ref a ∧ S[n]? = some (.l xs) ∧ H a = some (.lst vs) ∧ RpAll X.K r H vs xs ∧ w = .m n ∧ tRun X c W R r σ H S (g (n, xs)) Q := by
  cases w with
  | d x => obtain ⟨_, _, e, _⟩ := h; cases e
  | f x => obtain ⟨_, _, e, _⟩ := h; cases e
  | r lo hi => obtain ⟨_, _, e, _⟩ := h; cases e
  | p a b => obtain ⟨_, _, e, _⟩ := h; cases e
  | m n =>
    obtain ⟨a, h1, rfl⟩ := q
    obtain ⟨o, S', e, h⟩ := h
    rw [M.bind_run] at e
    have e2 : mutAt (.m n) S = match S[n]? with
      | some (.l xs) => some (.ok (n, xs), S)
      | _ => none := rfl
    cases q : S[n]? with
    | none => rw [e2, q] at e; cases e
    | some u =>
      cases u with
      | l xs =>
        rw [e2, q] at e
        obtain ⟨vs, h2, h3⟩ := s.at_ n a xs h1 q
        exact ⟨n, a, xs, vs, h1, rfl, q, h2, h3, rfl, o, S', e, h⟩
      | k kvs => rw [e2, q] at e; cases e
      | q kvs => rw [e2, q] at e; cases e
      | w kvs => rw [e2, q] at e; cases e
      | o c kvs => rw [e2, q] at e; cases e
      | z kvs => rw [e2, q] at e; cases e
theorem putAt_run {n : Nat} {a : Addr} {ys : List PyData} {us : List V} {Q : VK} (h : tRun X c W (Rw X.K X.mg) r σ H S (putAt n ys) Q) (s : StoRel (wg X) X.K r H S) (t : Tabs c.T H) (hr : r.st[n]? = some a) (nf : NoF H a) (q : RpAll X.K r H us ys) : Q .non (upd H a (.lst us)) := by
  obtain ⟨o, S', e, h⟩ := h
  cases e
  have E : Ext false r r H (upd H a (.lst us)) := Ext.put s.mu (List.mem_of_getElem? hr) nf
  exact h r .non _ E.up (s.put hr nf q) (tabs_ext E t) (show Rp X.K _ _ _ _ from .non)
theorem datOf_ok {w : Vl} {v : V} {d : PyData} {K : PySem.W.Frag} {mg : Str → Option Value} (q : Rw K mg r H v w) (h : datOf w = some d) : Rp K r H v d := by
  cases w with
  | d x => cases h; exact q
  | m n => cases h
  | f n => cases h
  | r lo hi => cases h
  | p a b => cases h
theorem intOf_ok {w : Vl} {v : V} {d : Int} {K : PySem.W.Frag} {mg : Str → Option Value} (q : Rw K mg r H v w) (h : intOf w = some d) : v = .int d := by
  cases w with
  | d x =>
    cases x <;> simp only [intOf] at h <;> try cases h
    cases q; rfl
  | m n => cases h
  | f n => cases h
  | r lo hi => cases h
  | p a b => cases h
theorem two_run {R : Lv → Hp → β → α → Prop} {γ : Type} {m : M γ} {g : γ → M α} {o : Except Str γ} {Q : β → Hp → Prop} (h : tRun X c W R r σ H S (m >>= g) Q) {a : γ} (e : m S = some (.ok a, S)) : tRun X c W R r σ H S (g a) Q := by
  obtain ⟨o, S', e', h⟩ := h
  rw [M.bind_run, e] at e'
  exact ⟨o, S', e', h⟩
/-- o.append(e) -/
def fAppend (fo fe : Ev → M Vl) : Ev → M Vl := fun ev => do
  let x ← fo ev
  let _ ← mutAt x
  let y ← fe ev
  let d ← M.lift (datOf y)
  let p ← mutAt x
  if p.2.length < 1000000 then putAt p.1 (p.2 ++ [d]) else M.fail
theorem qe_append {apos cpos : Pos} (ho : QE X c W o fe) (ha : QE X c W e ge)
    (hbase : attributeBase o "append" X.env (eval o X.env) = eval o X.env := by rfl)
    (hfew : ((backTo cpos (starEach [e] X.env)).all (fun x => !x.1) && (backToKw cpos (keywordEach [] X.env)).all (fun x => x.1.isSome)
      && decide (([e] : List Expr).length + ([] : List Keyword).length + (if ([] : List Keyword).isEmpty then 0 else 1) < 30)) = true := by rfl)
    (hline : (apos.endLine == cpos.line) = true := by rfl) (hs : starEach [e] X.env = (false, eval e X.env) :: starEach [] X.env := by rfl) (hplain : (backTo cpos (starEach [] X.env)).any (·.1) = false := by rfl) :
    QE X c W (.Call (.Attribute o "append" apos) [e] [] cpos) (fAppend fe ge) := by
  have hh := pe_bm (X := X) (cpos := cpos) (apos := apos) PySem.F.plainAttrs_list PySem.F.slot_list_append PySem.F.type_list_append mt_append ho (pa_cons ha pa_nil hs) hbase hfew hline hs hplain
  refine pe_weak hh fun σ H Q h => ?_
  obtain ⟨r, ev, S, x, h⟩ := h
  refine tX.of x h.bind fun v H1 ⟨r1, S1, w, e1, s1, t1, q1, h1⟩ => ?_
  have x1 := x.ext e1 s1 t1
  obtain ⟨n0, a0, xs0, vs0, hr0, rfl, hs0, hH0, hq0, rfl, h1⟩ := mutAt_run h1 s1 q1
  refine ⟨.inl ⟨rfl, _, .inl (.inl hH0)⟩, ?_⟩
  refine tX.of x1 h1.bind fun u H2 ⟨r2, S2, y, e2, s2, t2, q2, h2⟩ => ?_
  obtain ⟨d, ed, h3⟩ := lift_run h2
  obtain ⟨n, a, xs, vs, ra, ev2, sn, ha, hr, _, h4⟩ := mutAt_run h3 s2 (q1.ext e2)
  cases ev2
  dsimp only at h4
  split at h4
  · rename_i hz
    refine ⟨a0, vs, u, rfl, rfl, ha, by rw [hr.length, sizeLine_eq]; omega, ?_⟩
    exact putAt_run h4 s2 t2 ra (nofL ha) (hr.append (.cons (datOf_ok q2 ed) .nil))
  · exact (fail_run h4).elim
/-- o[i] = e: e, o, i in this sequence -/
def fPut (fe fo fi : Ev → M Vl) : Ev → M Vl := fun ev => do
  let y ← fe ev
  let d ← M.lift (datOf y)
  let x ← fo ev
  let k ← fi ev
  let k ← M.lift (intOf k)
  let p ← mutAt x
  let j ← M.lift (ixN p.2.length k)
  putAt p.1 (p.2.set j d)
theorem qs_put {tpos : Pos} (hv : QE X c W e fe) (ho : QE X c W o ge) (hi : QE X c W i he)
    (ha : ∀ v, assign (.Subscript o i tpos) X.env v = (do
      let ov ← holding [v] (eval o X.env)
      let iv ← holding [v, ov] (eval i X.env)
      standAt tpos
      holding [v, ov, iv] (setItem ov iv v)
      release [v, ov, iv] []) := by intro _; rfl)
    (hs : swapsWithSole [.Subscript o i tpos] e pos.line X.env = pure false := by rfl) (hw : swappedStores [.Subscript o i tpos] e X.env = pure none := by rfl)
    (h1 : (assignEach [.Subscript o i tpos] X.env).map (·.2) = [assign (.Subscript o i tpos) X.env] := by rfl) : QS X c W (.Assign [.Subscript o i tpos] e pos) (sExpr (fPut fe ge he)) := by
  refine ps_weak (ps_asg hv (pg_sub ho hi set_list ha) hs hw h1) fun D σ H ⟨r, ev, S, x, h⟩ => ?_
  have h := h.onE (R := Rw X.K X.mg) x
  refine tX.of x h.bind fun v H1 ⟨r1, S1, w, e1, s1, t1, q1, h1⟩ => ?_
  have x1 := x.ext e1 s1 t1
  obtain ⟨d, ed, h2⟩ := lift_run h1
  refine tX.of x1 h2.bind fun ov H2 ⟨r2, S2, y, e2, s2, t2, q2, h3⟩ => ?_
  have x2 := x1.ext e2 s2 t2
  refine tX.of x2 h3.bind fun iv H3 ⟨r3, S3, k, e3, s3, t3, q3, h4⟩ => ?_
  obtain ⟨k', ek, h5⟩ := lift_run h4
  obtain ⟨n, a, xs, vs, ra, ev2, sn, ha, hr, _, h6⟩ := mutAt_run h5 s3 (q2.ext e3)
  obtain ⟨j, ej, h7⟩ := lift_run h6
  subst ev2
  have ek' := intOf_ok q3 ek
  subst ek'
  refine ⟨a, vs, k', j, rfl, rfl, ha, by rw [hr.length]; exact ej, ?_⟩
  have := putAt_run h7 s3 t3 ra (nofL ha) (hr.set (datOf_ok ((q1.ext e2).ext e3) ed) j)
  obtain ⟨r', S', w', E, x', _, q'⟩ := this
  exact q'.nx x'
/-- name op= e, ints -/
def ipQ (X : Cx) (op : Operator) (p : PyData → PyData → Option PyData) : Prop := ∃ R, PIp X op R ∧ OpD X R p
theorem q_iadd : ipQ X .Add (fun x y => match x, y with | .int i, .int j => some (.int (i + j)) | _, _ => none) := by
  refine ⟨_, ip_add, fun r H S x y a b z Q s qa qb e A => ?_⟩
  cases a <;> cases b <;> simp only at e <;> try cases e
  cases qa.int; cases qb.int
  exact ⟨_, _, rfl, rfl, A.here s (.int _)⟩
theorem q_isub : ipQ X .Sub (fun x y => match x, y with | .int i, .int j => some (.int (i - j)) | _, _ => none) := by
  refine ⟨_, ip_sub, fun r H S x y a b z Q s qa qb e A => ?_⟩
  cases a <;> cases b <;> simp only at e <;> try cases e
  cases qa.int; cases qb.int
  exact ⟨_, _, rfl, rfl, A.here s (.int _)⟩
theorem qs_aug (k : Nat) {x : Str} {op : Operator} {p : PyData → PyData → Option PyData} {pos' : Pos} (hp : ipQ X op p) (hN : X.N.Nodup) (hv : QE X c W e fe) (hi : X.N[k]? = some x := by rfl) (hx : Loc X.env.scope x := by first | exact Or.inl rfl | exact Or.inr rfl)
    (hf : X.fn x = true ∨ X.env.scope.names.lookup x = some .local := by first | exact .inl rfl | exact .inr rfl | assumption) :
    QS X c W (.AugAssign (.Name x pos') op e pos) (sSet k (fOp p (fVar k) fe)) := by
  obtain ⟨R, h1, h2⟩ := hp
  refine ps_weak (ps_aug hN hi hx hv h1 hf) fun D σ H ⟨r, ev, S, x', h⟩ => ?_
  have h := h.onE (R := Rw X.K X.mg) x'
  have hb := h.bind (R1 := Rw X.K X.mg)
  unfold fVar at hb
  split at hb
  · rename_i w q
    obtain ⟨v, g1, g2⟩ := x'.ev k w q
    refine ⟨v, g1, ?_⟩
    obtain ⟨r1, S1, w1, e1, s1, t1, q1, h3⟩ := hb.pure rfl x'.sto x'.tabs g2
    have x1 := x'.ext e1 s1 t1
    refine tX.of x1 h3.bind fun u H2 ⟨r2, S2, y, e2, s2, t2, q2, h4⟩ => ?_
    obtain ⟨a, qa, h5⟩ := rd_run h4 s2 (q1.ext e2)
    obtain ⟨b, qb, h6⟩ := rd_run h5 s2 q2
    obtain ⟨z, ez, h7⟩ := lift_run h6
    refine h2 r2 H2 S2 v u a b z _ s2 qa qb ez (fun v' H' E s' q' => ?_)
    obtain ⟨r3, S3, w3, e3, x3, q3, h8⟩ := (acc_of h7 t2) v' H' E s' q'
    exact h8.nx (x3.set hi q3)
  · exact (fail_run hb).elim
/-- o[i] op= e -/
def fPutOp (p : PyData → PyData → Option PyData) (fo fi fe : Ev → M Vl) : Ev → M Vl := fun ev => do
  let x ← fo ev
  let k ← fi ev
  let k ← M.lift (intOf k)
  let q ← mutAt x
  let old ← M.lift (if 0 ≤ k then q.2[k.toNat]? else none)
  let y ← fe ev
  let b ← rd y
  let z ← M.lift (p old b)
  let q ← mutAt x
  let j ← M.lift (ixN q.2.length k)
  putAt q.1 (q.2.set j z)
def rGetL (K : PySem.W.Frag) : R2 := fun x y H Q => ∃ p xs i v, x = .ref p ∧ y = .int i ∧ SqL K H p xs ∧ 0 ≤ i ∧ xs[i.toNat]? = some v ∧ Q v H
theorem get_list : PGet X (rGetL X.K) := by
  intro pins s σ H o i ov iv Q I ro ri h
  obtain ⟨p, xs, k, v, rfl, rfl, hq, h0, e, q⟩ := h
  cases ro
  obtain ⟨t, rfl⟩ := ri
  obtain ⟨its, r, pl, hz⟩ := I.list hq
  obtain ⟨u, hu, ru⟩ := r.get e
  have hl := (List.getElem?_eq_some_iff.mp e).1
  have hn := line63
  exact wpAny_getItem_list pl.isList h0 (by omega) (by simpa using hu) ⟨v, H, I, ru, q⟩
/-- an operation in place of ints: its answer is an int -/
theorem qs_putop {op : Operator} {p : Int → Int → Int} (hp : PIp X op (ipI p)) (ho : QE X c W o fe) (hi : QE X c W i ge) (hv : QE X c W e he)
    (ha : ∀ ov iv new, augStore i ov iv new = (do holding [new, ov, iv] (setItem ov iv new); release [new, ov, iv] []; pure .next) := by intros; rfl) :
    QS X c W (.AugAssign (.Subscript o i tpos) op e pos) (sExpr (fPutOp (fun x y => match x, y with | .int i, .int j => some (.int (p i j)) | _, _ => none) fe ge he)) := by
  refine ps_weak (ps_augS ho hi get_list hv hp set_list ha) fun D σ H ⟨r, ev, S, x, h⟩ => ?_
  have h := h.onE (R := Rw X.K X.mg) x
  refine tX.of x h.bind fun ov H1 ⟨r1, S1, w, e1, s1, t1, q1, h1⟩ => ?_
  have x1 := x.ext e1 s1 t1
  refine tX.of x1 h1.bind fun iv H2 ⟨r2, S2, k, e2, s2, t2, q2, h2⟩ => ?_
  have x2 := x1.ext e2 s2 t2
  obtain ⟨k', ek, h3⟩ := lift_run h2
  have ek' := intOf_ok q2 ek
  subst ek'
  obtain ⟨n0, a0, xs0, vs0, hr0, rfl, hs0, hH0, hq0, rfl, h4⟩ := mutAt_run h3 s2 (q1.ext e2)
  obtain ⟨old, eo, h5⟩ := lift_run h4
  split at eo
  · rename_i h0
    obtain ⟨vo, ev1, qo⟩ := hq0.get eo
    refine ⟨a0, vs0, k', vo, rfl, rfl, .inl (.inl hH0), h0, ev1, ?_⟩
    refine tX.of x2 h5.bind fun y H3 ⟨r3, S3, w3, e3, s3, t3, q3, h6⟩ => ?_
    obtain ⟨b, qb, h7⟩ := rd_run h6 s3 q3
    obtain ⟨z, ez, h8⟩ := lift_run h7
    obtain ⟨n, a, xs, vs, ra, ev2, sn, ha, hr, _, h9⟩ := mutAt_run h8 s3 ((q1.ext e2).ext e3)
    obtain ⟨j, ej, h10⟩ := lift_run h9
    cases ev2
    cases old <;> cases b <;> simp only at ez <;> try cases ez
    have q0 := qo.ext e3
    cases q0
    cases qb.int
    refine ⟨_, _, rfl, rfl, a0, vs, k', j, rfl, rfl, ha, by rw [hr.length]; exact ej, ?_⟩
    have := putAt_run h10 s3 t3 ra (nofL ha) (hr.set (Rp.int _) j)
    obtain ⟨r', S', w', E, x', _, q'⟩ := this
    exact q'.nx x'
  · cases eo
end
end DD
/-! part DV -/
set_option Elab.async false
set_option linter.all false
set_option maxRecDepth 100000
set_option maxHeartbeats 4000000
namespace DD
open PySem PySem.Spec PyProof.Rows L2 LamX

/-! ### targets -/
def SameBut (is : List Nat) (σ σ' : L2.St) : Prop := σ'.length = σ.length ∧ ∀ j, j ∉ is → σ'[j]? = σ[j]?
theorem SameBut.refl (is : List Nat) (σ : L2.St) : SameBut is σ σ := ⟨rfl, fun _ _ => rfl⟩
theorem SameBut.trans {is js : List Nat} {σ σ1 σ2 : L2.St} (a : SameBut is σ σ1) (b : SameBut js σ1 σ2) : SameBut (is ++ js) σ σ2 :=
  ⟨b.1.trans a.1, fun j hj => (b.2 j fun h => hj (List.mem_append_right _ h)).trans (a.2 j fun h => hj (List.mem_append_left _ h))⟩
theorem SameBut.set (i : Nat) (σ : L2.St) (v : Option V) : SameBut [i] σ (σ.set i v) := ⟨List.length_set, fun j hj => List.getElem?_set_ne (fun e => hj (by simp [e]))⟩
theorem wipe_at {σ : L2.St} {j : Nat} : ∀ {vs : List Nat}, j ∈ vs → (wipe σ vs)[j]? = if j < σ.length then some none else none
  | [], h => by cases h
  | v :: vs, h => by
    unfold wipe
    by_cases e : v = j
    · subst e
      by_cases hl : v < σ.length
      · rw [List.getElem?_set_self (by rw [wipe_length]; exact hl), if_pos hl]
      · rw [List.getElem?_eq_none (by rw [List.length_set, wipe_length]; omega), if_neg hl]
    · rw [List.getElem?_set_ne e]
      exact wipe_at ((List.mem_cons.mp h).resolve_left (Ne.symm e))
theorem wipe_eq {σ σ' : L2.St} {is vs : List Nat} (h : SameBut is σ σ') (hs : ∀ i ∈ is, i ∈ vs) : wipe σ' vs = wipe σ vs := by
  refine List.ext_getElem? fun j => ?_
  by_cases hj : j ∈ vs
  · rw [wipe_at hj, wipe_at hj, h.1]
  · rw [wipe_out hj, wipe_out hj]
    exact h.2 j fun z => hj (hs j z)
theorem wipe_wipe (σ : L2.St) (vs : List Nat) : wipe (wipe σ vs) vs = wipe σ vs := by
  refine List.ext_getElem? fun j => ?_
  by_cases hj : j ∈ vs
  · rw [wipe_at hj, wipe_at hj, wipe_length]
  · rw [wipe_out hj]
def wipeE (ev : Ev) : List Nat → Ev
  | [] => ev
  | v :: vs => (wipeE ev vs).set v none
theorem wipeE_some {ev : Ev} {i : Nat} {x : Vl} : ∀ {vs : List Nat}, (wipeE ev vs)[i]? = some (some x) → ev[i]? = some (some x) ∧ i ∉ vs
  | [], h => ⟨h, by simp⟩
  | v :: vs, h => by
    unfold wipeE at h
    by_cases hi : v = i
    · subst hi
      by_cases hv : v < (wipeE ev vs).length
      · rw [List.getElem?_set_self hv] at h; cases h
      · rw [List.getElem?_eq_none (by simpa using hv)] at h; cases h
    · rw [List.getElem?_set_ne hi] at h
      obtain ⟨h1, h2⟩ := wipeE_some h
      exact ⟨h1, by simp only [List.mem_cons, not_or]; exact ⟨fun e => hi e.symm, h2⟩⟩
theorem EvR.wipe {K : PySem.W.Frag} {mg : Str → Option Value} {r : Lv} {σ : L2.St} {H : Hp} {ev : Ev} (h : EvR K mg r σ H ev) (vs : List Nat) : EvR K mg r (L2.wipe σ vs) H (wipeE ev vs) := fun i w q => by
  obtain ⟨h1, h2⟩ := wipeE_some q
  obtain ⟨v, h3, h4⟩ := h i w h1
  exact ⟨v, by rw [wipe_out h2]; exact h3, h4⟩
def tG (X : Cx) (c : Cf) (g : Vl → Ev → Option Ev) (is : List Nat) : TG := fun v σ H Q => ∃ r ev S w ev', Rel X c r σ H ev S ∧ Rw X.K X.mg r H v w ∧ g w ev = some ev' ∧ ∀ σ', Rel X c r σ' H ev' S → SameBut is σ σ' → Q σ' H
def tGs (X : Cx) (c : Cf) (g : List Vl → Ev → Option Ev) (is : List Nat) : TGs := fun vs σ H Q => ∃ r ev S ds ev', Rel X c r σ H ev S ∧ RwAll X.K X.mg r H vs ds ∧ g ds ev = some ev' ∧ ∀ σ', Rel X c r σ' H ev' S → SameBut is σ σ' → Q σ' H
def QG (X : Cx) (c : Cf) (t : Expr) (g : Vl → Ev → Option Ev) (is : List Nat) : Prop := PG X t (tG X c g is)
def QGs (X : Cx) (c : Cf) (t : List Expr) (g : List Vl → Ev → Option Ev) (is : List Nat) : Prop := PGs X t (tGs X c g is)
def gN (i : Nat) : Vl → Ev → Option Ev := fun w ev => some (ev.set i (some w))
def gsNil : List Vl → Ev → Option Ev := fun ds ev => match ds with
  | [] => some ev
  | _ => none
def gsCons (g : Vl → Ev → Option Ev) (gs : List Vl → Ev → Option Ev) : List Vl → Ev → Option Ev := fun ds ev => match ds with
  | [] => none
  | d :: ds => match g d ev with
    | some ev' => gs ds ev'
    | none => none
def gT (n : Nat) (gs : List Vl → Ev → Option Ev) : Vl → Ev → Option Ev := fun w ev => match w with
  | .d (.tuple ds) => if ds.length = n then gs (ds.map .d) ev else none
  | .p a b => if 2 = n then gs [a, b] ev else none
  | _ => none
theorem RpAll.rw {K : PySem.W.Frag} {mg : Str → Option Value} {r : Lv} {H : Hp} : ∀ {vs : List V} {ds : List PyData}, RpAll K r H vs ds → RwAll K mg r H vs (ds.map .d)
  | _, _, .nil => .nil
  | _, _, .cons h t => .cons h (RpAll.rw t)
section
variable {X : Cx} {c : Cf} {W : WX} {e : Expr} {es : List Expr} {pos : Pos} {g : Vl → Ev → Option Ev} {gs : List Vl → Ev → Option Ev} {is js : List Nat} {fe : Ev → M Vl} {fs : Ev → M (List Vl)}
theorem pg_weak {t t' : TG} (h : PG X e t) (k : ∀ v σ H Q, t' v σ H Q → t v σ H Q) : PG X e t' := ⟨fun pins s σ H v u Q I r q => h.run pins s σ H v u Q I r (k _ _ _ _ q)⟩
theorem pgs_weak {t t' : TGs} (h : PGs X es t) (k : ∀ v σ H Q, t' v σ H Q → t v σ H Q) : PGs X es t' := ⟨fun pins s σ H v u Q I r q => h.run pins s σ H v u Q I r (k _ _ _ _ q)⟩
theorem qg_name (i : Nat) {x : Str} (hN : X.N.Nodup) (hi : X.N[i]? = some x := by rfl) (hx : Loc X.env.scope x := by first | exact Or.inl rfl | exact Or.inr rfl)
    (hf : X.fn x = true ∨ X.env.scope.names.lookup x = some .local := by first | exact .inl rfl | exact .inr rfl | assumption) : QG X c (.Name x pos) (gN i) [i] := pg_weak (pg_name hN hi hx hf) fun v σ H Q ⟨r, ev, S, w, ev', x', q, e, h⟩ => by
  cases e
  exact h _ (x'.set hi q) (.set i σ _)
theorem qgs_nil : QGs X c [] gsNil [] := pgs_weak pgs_nil fun v σ H Q ⟨r, ev, S, ds, ev', x', q, e, h⟩ => by
  cases q with
  | nil => cases e; exact ⟨rfl, h _ x' (.refl _ _)⟩
  | cons a b => cases e
theorem qgs_cons (h1 : QG X c e g is) (h2 : QGs X c es gs js) (hs : (assignEach (e :: es) X.env).map (·.2) = assign e X.env :: (assignEach es X.env).map (·.2) := by rfl) : QGs X c (e :: es) (gsCons g gs) (is ++ js) := pgs_weak (pgs_cons h1 h2 hs) fun v σ H Q ⟨r, ev, S, ds, ev', x', q, e, h⟩ => by
  cases q with
  | nil => cases e
  | @cons v vs d ds a b =>
    simp only [gsCons] at e
    split at e
    · rename_i ev1 e1
      exact ⟨v, vs, rfl, r, ev, S, d, ev1, x', a, e1, fun σ1 x1 s1 => ⟨r, ev1, S, ds, ev', x1, b, e, fun σ2 x2 s2 => h σ2 x2 (s1.trans s2)⟩⟩
    · cases e
theorem qg_tup {k n : Nat} (hc : X.calm = true) (h : QGs X c es gs is) (hn : (assignEach es X.env).length = n := by rfl) (hst : (assignEach es X.env).findIdx? (·.1) = none := by rfl) : QG X c (.Tuple es k pos) (gT n gs) is := pg_weak (pg_tup hc h hn hst) fun v σ H Q ⟨r, ev, S, w, ev', x', q, e, h⟩ => by
  cases w with
  | m n => cases e
  | f n => cases e
  | r lo hi => cases e
  | d d =>
    cases d <;> simp only [gT] at e <;> try cases e
    split at e
    · rename_i hl
      cases q with
      | tup h1 h2 => exact ⟨_, _, rfl, h1, by rw [h2.length]; exact hl, r, ev, S, _, ev', x', h2.rw, e, h⟩
    · cases e
  | p a b =>
    simp only [gT] at e
    split at e
    · rename_i hl
      obtain ⟨p, u1, u2, g1, g2, g3, rfl⟩ := (show Rv X.K r H v (.p a b) from q)
      exact ⟨_, _, rfl, g1, hl, r, ev, S, _, ev', x', .cons g2.rw (.cons g3.rw .nil), e, h⟩
    · cases e
def sAsg (g : Vl → Ev → Option Ev) (f : Ev → M Vl) : SM := fun ev => onE (f ev) ev fun w S => match g w ev with
  | some ev' => some (.nx, ev', S)
  | none => none
theorem qs_asg {tg : Expr} (he : QE X c W e fe) (hg : QG X c tg g is) (hs : swapsWithSole [tg] e pos.line X.env = pure false := by rfl) (hw : swappedStores [tg] e X.env = pure none := by rfl)
    (h1 : (assignEach [tg] X.env).map (·.2) = [assign tg X.env] := by rfl) : QS X c W (.Assign [tg] e pos) (sAsg g fe) := ps_weak (ps_asg he hg hs hw h1) fun D σ H ⟨r, ev, S, x, h⟩ =>
  tX.of x (h.onE x) fun v H1 ⟨r1, S1, w, e1, x1, q1, h1⟩ => by
    cases q : g w ev with
    | none =>
      rw [q] at h1
      obtain ⟨_, _, _, z, _⟩ := h1
      cases z
    | some ev' =>
      rw [q] at h1
      exact ⟨r1, ev, S1, w, ev', x1, q1, q, fun σ' x' _ => h1.nx x'⟩
def sPar (i j : Nat) (f : Ev → M (List Vl)) : SM := fun ev => onE (f ev) ev fun ws S => match ws with
  | [a, b] => some (.nx, (ev.set i (some a)).set j (some b), S)
  | _ => none
def sPar3 (i j k : Nat) (f : Ev → M (List Vl)) : SM := fun ev => onE (f ev) ev fun ws S => match ws with
  | [a, b, c] => some (.nx, ((ev.set i (some a)).set j (some b)).set k (some c), S)
  | _ => none
theorem none_run {W : WX} {r : Lv} {H : Hp} {D : Ends} (h : sRun X c W r H D none) : False := by
  obtain ⟨_, _, _, z, _⟩ := h
  cases z
theorem qs_par (i j : Nat) {x y : Str} {a b : Expr} {px py pt : Pos} {kt k2 pt2} (hc : X.calm = true) (hN : X.N.Nodup) (ha : QA X c W [a, b] fs) (hi : X.N[i]? = some x := by rfl) (hj : X.N[j]? = some y := by rfl) (hij : i ≠ j := by decide)
    (hx : X.env.scope.names.lookup x = some .local := by rfl) (hy : X.env.scope.names.lookup y = some .local := by rfl)
    (hw : swappedStores [.Tuple [.Name x px, .Name y py] kt pt] (.Tuple [a, b] k2 pt2) X.env = pure (some [x, y]) := by rfl)
    (hs : swapsWithSole [.Tuple [.Name x px, .Name y py] kt pt] (.Tuple [a, b] k2 pt2) pos.line X.env = pure false := by rfl) :
    QS X c W (.Assign [.Tuple [.Name x px, .Name y py] kt pt] (.Tuple [a, b] k2 pt2) pos) (sPar i j fs) := ps_weak (ps_par hc hN hi hj hij hx hy ha hw hs) fun D σ H ⟨r, ev, S, x', h⟩ =>
  tX.of x' (h.onE x') fun vs H1 ⟨r1, S1, ws, e1, x1, q1, h1⟩ => by
    try dsimp only at h1
    split at h1
    · cases q1 with
      | cons a t =>
        cases t with
        | cons b t =>
          cases t
          exact ⟨_, _, rfl, h1.nx ((x1.set hi a).set hj b)⟩
    · exact (none_run h1).elim
theorem qs_par3 (i j l : Nat) {x y z : Str} {a b d : Expr} {px py pz pt : Pos} {kt k2 pt2} (hc : X.calm = true) (hN : X.N.Nodup) (ha : QA X c W [a, b, d] fs) (hi : X.N[i]? = some x := by rfl) (hj : X.N[j]? = some y := by rfl) (hl : X.N[l]? = some z := by rfl)
    (hij : i ≠ j := by decide) (hil : i ≠ l := by decide) (hjl : j ≠ l := by decide)
    (hx : X.env.scope.names.lookup x = some .local := by rfl) (hy : X.env.scope.names.lookup y = some .local := by rfl) (hz : X.env.scope.names.lookup z = some .local := by rfl)
    (hw : swappedStores [.Tuple [.Name x px, .Name y py, .Name z pz] kt pt] (.Tuple [a, b, d] k2 pt2) X.env = pure (some [x, y, z]) := by rfl)
    (hs : swapsWithSole [.Tuple [.Name x px, .Name y py, .Name z pz] kt pt] (.Tuple [a, b, d] k2 pt2) pos.line X.env = pure false := by rfl) :
    QS X c W (.Assign [.Tuple [.Name x px, .Name y py, .Name z pz] kt pt] (.Tuple [a, b, d] k2 pt2) pos) (sPar3 i j l fs) := ps_weak (ps_par3 hc hN hi hj hl hij hil hjl hx hy hz ha hw hs) fun D σ H ⟨r, ev, S, x', h⟩ =>
  tX.of x' (h.onE x') fun vs H1 ⟨r1, S1, ws, e1, x1, q1, h1⟩ => by
    try dsimp only at h1
    split at h1
    · cases q1 with
      | cons a t =>
        cases t with
        | cons b t =>
          cases t with
          | cons d t =>
            cases t
            exact ⟨_, _, _, rfl, h1.nx (((x1.set hi a).set hj b).set hl d)⟩
    · exact (none_run h1).elim
end
end DD
/-! part DW -/
set_option Elab.async false
set_option linter.all false
set_option maxRecDepth 100000
set_option maxHeartbeats 4000000
namespace DD
open PySem PySem.Spec PyProof.Rows L2 LamX

/-! ### what is walked -/
/-- J yields ds; F: what must stay of the heap -/
structure Yields (wd : Wg) (K : PySem.W.Frag) (J : It) (ds : List PyData) (F : Lv → Hp → Prop) : Prop where
  go : ∀ r H i, F r H → i < ds.length → J.go i H
  yld : ∀ r H S i d x H', F r H → StoRel wd K r H S → ds[i]? = some d → J.yld i H x H' → Ext false r r H H' ∧ StoRel wd K r H' S ∧ Rp K r H' x d
  stop : ∀ r H, F r H → J.stop ds.length H
  ext : ∀ lam r r' H H', F r H → Ext lam r r' H H' → F r' H'
  hide : ∀ r H S D, F r H → StoRel wd K r H S → H D = none → F (r.hide D) (upd H D (.lst []))
  putH : ∀ r H S D xs, F r H → StoRel wd K r H S → D ∈ r.hid → F r (upd H D (.lst xs))
def RI (wd : Wg) (K : PySem.W.Frag) : Lv → Hp → It → List PyData → Prop := fun r H J ds => ∃ F, Yields wd K J ds F ∧ F r H
def QI (X : Cx) (c : Cf) (W : WX) (tg it : Expr) (f : Ev → M (List PyData)) : Prop := PI X tg it (tX X c W (RI (wg X) X.K) f)
def itemsOf : Vl → Option (List PyData)
  | .d (.list xs) => some xs
  | .d (.tuple xs) => some xs
  | _ => none
def fItems (f : Ev → M Vl) : Ev → M (List PyData) := fun ev => do
  let w ← f ev
  M.lift (itemsOf w)
def intsL (lo : Int) (n : Nat) : List PyData := (List.range n).map fun i => .int (lo + (i : Nat))
def rng1P : List PyData → Option (List PyData)
  | [.int j] => if -1000000 ≤ j ∧ j ≤ 1000000 then some (intsL 0 j.toNat) else none
  | _ => none
def rng2P : List PyData → Option (List PyData)
  | [.int i, .int j] => if -1000000 ≤ i ∧ i ≤ 1000000 ∧ -1000000 ≤ j ∧ j ≤ 1000000 then some (intsL i (j - i).toNat) else none
  | _ => none
def fRange (p : List PyData → Option (List PyData)) (f : Ev → M (List Vl)) : Ev → M (List PyData) := fun ev => do
  let ws ← f ev
  let ds ← rdAll ws
  M.lift (p ds)
section
variable {X : Cx} {c : Cf} {W : WX} {tg e a b : Expr} {fe : Ev → M Vl} {fs : Ev → M (List Vl)} {K : PySem.W.Frag} {wd : Wg} {pos : Pos}
theorem pi_weak {t t' : TI} (h : PI X tg e t) (k : ∀ σ H R, t' σ H R → t σ H R) : PI X tg e t' := ⟨fun pins s σ H R I q => h.run pins s σ H R I (k _ _ _ q)⟩
/-- a list or a tuple -/
def iSq (K : PySem.W.Frag) (tl : TE) : TI := fun σ H R => tl σ H fun x H1 => ∃ a, x = .ref a ∧ (((∃ xs, SqL K H1 a xs) ∧ R (Itl K a) H1) ∨ ((∃ xs, SqT K H1 a xs) ∧ R (Itt K a) H1))
theorem pi_sq {tl : TE} (hl : PE X e tl) : PI X tg e (iSq X.K tl) := by
  refine ⟨fun pins s σ H R I h => ?_⟩
  refine thn (hl.run pins s σ H _ I h) fun v s1 ⟨x, H1, I1, r1, q1⟩ => ?_
  obtain ⟨a, e, q⟩ := q1
  subst e
  cases r1
  rcases q with ⟨⟨xs, hq⟩, q⟩ | ⟨⟨xs, hq⟩, q⟩
  · obtain ⟨its, rv, p, hz⟩ := I1.list hq
    refine wpAny_pyIter_list p.isList ?_
    refine ⟨s1.heap.objs.size, [s1.heap.objs.size], _, _, H1, rfl, I1.kept (t' := s1.toks) fun b o e => Heap.get?_push_of_some _ e, turn_list a _, ⟨_, Heap.get?_push_size _ rfl, rfl, rfl⟩, fun b hb => ?_, q⟩
    have e : b = s1.heap.objs.size := by simpa using hb
    subst e
    exact I1.fpOk (Nat.le_refl _) (I1.hok.fresh (Nat.le_refl _))
  · obtain ⟨its, rv, p, hz⟩ := I1.tuple hq
    refine wpAny_pyIter_tuple (show s1.heap.IsTuple a its.toArray from p) ?_
    refine ⟨s1.heap.objs.size, [s1.heap.objs.size], _, _, H1, rfl, I1.kept (t' := s1.toks) fun b o e => Heap.get?_push_of_some _ e, turn_tuple a _, ⟨_, Heap.get?_push_size _ rfl, rfl, rfl⟩, fun b hb => ?_, q⟩
    have e : b = s1.heap.objs.size := by simpa using hb
    subst e
    exact I1.fpOk (Nat.le_refl _) (I1.hok.fresh (Nat.le_refl _))
theorem SqF.hide {r : Lv} {H : Hp} {D l : Addr} {xs : List V} (h : SqF K r H l xs) (hD : H D = none) : SqF K (r.hide D) (upd H D (.lst [])) l xs := by
  rcases h with ⟨hb, hn⟩ | ⟨o, hb⟩ | hb
  · refine .inl ⟨by rw [upd_ne (ne_of_none hb hD)]; exact hb, hn.1, fun hm => ?_⟩
    have hm : l ∈ D :: r.hid := hm
    rcases List.mem_cons.mp hm with z | z
    · rw [z, hD] at hb; cases hb
    · exact hn.2 z
  · exact .inr (.inl ⟨o, by rw [upd_ne (ne_of_none hb hD)]; exact hb⟩)
  · exact .inr (.inr hb)
theorem SqF.putH {r : Lv} {H : Hp} {S : Sto} {D l : Addr} {xs ys : List V} (h : SqF K r H l xs) (s : StoRel wd K r H S) (hD : D ∈ r.hid) : SqF K r (upd H D (.lst ys)) l xs := by
  have hl := s.mu D (.inr hD)
  rcases h with ⟨hb, hn⟩ | ⟨o, hb⟩ | hb
  · exact .inl ⟨by rw [upd_ne (fun (z : l = D) => hn.2 (z ▸ hD))]; exact hb, hn⟩
  · refine .inr (.inl ⟨o, ?_⟩)
    rw [upd_ne (fun z => by rw [← z, hb] at hl; exact hl)]; exact hb
  · exact .inr (.inr hb)
theorem RpAll.hide {r : Lv} {H : Hp} {D : Addr} : ∀ {vs : List V} {ds : List PyData}, RpAll K r H vs ds → H D = none → RpAll K (r.hide D) (upd H D (.lst [])) vs ds
  | _, _, .nil, _ => .nil
  | _, _, .cons h t, hD => .cons (h.hide hD) (RpAll.hide t hD)
theorem sqt_ne {H : Hp} {D l : Addr} {xs ys : List V} (h : SqT K H l xs) (hl : MutL (H D) ∨ H D = none) : SqT K (upd H D (.lst ys)) l xs := by
  rcases h with (hb | ⟨o, hb⟩) | hb
  · refine .inl (.inl ?_)
    rw [upd_ne (fun z => by rw [← z, hb] at hl; rcases hl with hl | hl; exact hl; cases hl)]; exact hb
  · refine .inl (.inr ⟨o, ?_⟩)
    rw [upd_ne (fun z => by rw [← z, hb] at hl; rcases hl with hl | hl; exact hl; cases hl)]; exact hb
  · exact .inr hb
theorem yields_list {l : Addr} {ds : List PyData} {vs : List V} : Yields wd K (Itl K l) ds (fun r H => SqF K r H l vs ∧ RpAll K r H vs ds) where
  go := fun r H i ⟨h1, h2⟩ hi => ⟨vs, vs[i]'(by rw [h2.length]; exact hi), h1.sq, List.getElem?_eq_getElem _⟩
  yld := fun r H S i d x H' ⟨h1, h2⟩ s hd ⟨e, y⟩ => by
    subst e
    obtain ⟨v, hv, q⟩ := h2.get hd
    have := y vs h1.sq
    rw [hv] at this
    cases this
    exact ⟨s.refl, s, q⟩
  stop := fun r H ⟨h1, h2⟩ => ⟨vs, h1.sq, by rw [h2.length]; exact Nat.le_refl _⟩
  ext := fun lam r r' H H' ⟨h1, h2⟩ e => ⟨e.sqf h1, h2.ext e⟩
  hide := fun r H S D ⟨h1, h2⟩ s hD => ⟨h1.hide hD, h2.hide hD⟩
  putH := fun r H S D xs ⟨h1, h2⟩ s hD => ⟨h1.putH s hD, Ext.putH s.mu hD h2⟩
theorem yields_tup {l : Addr} {ds : List PyData} {vs : List V} : Yields wd K (Itt K l) ds (fun r H => SqT K H l vs ∧ RpAll K r H vs ds) where
  go := fun r H i ⟨h1, h2⟩ hi => ⟨vs, vs[i]'(by rw [h2.length]; exact hi), h1, List.getElem?_eq_getElem _⟩
  yld := fun r H S i d x H' ⟨h1, h2⟩ s hd ⟨e, y⟩ => by
    subst e
    obtain ⟨v, hv, q⟩ := h2.get hd
    have := y vs h1
    rw [hv] at this
    cases this
    exact ⟨s.refl, s, q⟩
  stop := fun r H ⟨h1, h2⟩ => ⟨vs, h1, by rw [h2.length]; exact Nat.le_refl _⟩
  ext := fun lam r r' H H' ⟨h1, h2⟩ e => ⟨e.sqt h1, h2.ext e⟩
  hide := fun r H S D ⟨h1, h2⟩ s hD => ⟨sqt_ne h1 (.inr hD), h2.hide hD⟩
  putH := fun r H S D xs ⟨h1, h2⟩ s hD => ⟨sqt_ne h1 (.inl (s.mu D (.inr hD))), Ext.putH s.mu hD h2⟩
theorem yields_range {lo : Int} {n : Nat} : Yields wd K (Itr lo n) (intsL lo n) (fun _ _ => True) where
  go := fun r H i _ hi => by show i < n; simpa [intsL] using hi
  yld := fun r H S i d x H' _ s hd ⟨e, y⟩ => by
    subst e; subst y
    unfold intsL at hd
    rw [List.getElem?_map] at hd
    cases q : (List.range n)[i]? with
    | none => rw [q] at hd; cases hd
    | some j =>
      rw [q] at hd
      have hj := (List.getElem?_eq_some_iff.mp q)
      obtain ⟨h1, h2⟩ := hj
      rw [List.getElem_range] at h2
      subst h2
      cases hd
      exact ⟨s.refl, s, .int _⟩
  stop := fun r H _ => by show n ≤ (intsL lo n).length; simp [intsL]
  ext := fun _ _ _ _ _ _ _ => True.intro
  hide := fun _ _ _ _ _ _ _ => True.intro
  putH := fun _ _ _ _ _ _ _ _ => True.intro
theorem tX_last {α β : Type} {R : Lv → Hp → β → α → Prop} {r : Lv} {σ : L2.St} {H : Hp} {S : Sto} {o : Option α} {b : β} {Q : β → Hp → Prop} (h : tRun X c W R r σ H S (M.lift o) Q) : ∃ x, o = some x ∧ tRun X c W R r σ H S (pure x) Q := by
  cases o with
  | none =>
    obtain ⟨_, _, e, _⟩ := h
    cases e
  | some x => exact ⟨x, rfl, h⟩
theorem qi_sq (he : QE X c W e fe) : QI X c W tg e (fItems fe) := pi_weak (pi_sq he) fun σ H R h => by
  obtain ⟨r, ev, S, x, h⟩ := h
  refine tX.of x h.bind fun v H1 ⟨r1, S1, w, e1, s1, t1, q1, h1⟩ => ?_
  obtain ⟨ds, ed, h2⟩ := tX_last (b := Itr 0 0) h1
  unfold itemsOf at ed
  split at ed
  · cases ed
    cases q1 with
    | lst g1 g2 => exact ⟨_, rfl, .inl ⟨⟨_, g1.sq⟩, h2.pure rfl s1 t1 ⟨_, yields_list, g1, g2⟩⟩⟩
  · cases ed
    cases q1 with
    | tup g1 g2 => exact ⟨_, rfl, .inr ⟨⟨_, g1⟩, h2.pure rfl s1 t1 ⟨_, yields_tup, g1, g2⟩⟩⟩
  · cases ed
theorem RqAll.two {r : Lv} {H : Hp} {vs : List V} {d d2 : PyData} (h : RqAll K r H vs [d, d2]) : ∃ v u, vs = [v, u] ∧ Rq K r H v d ∧ Rq K r H u d2 := by
  cases h with
  | cons q t =>
    cases t with
    | cons q2 t => cases t; exact ⟨_, _, rfl, q, q2⟩
theorem qi_range1 {p : Pos} (hg : Gl X "range") (hm : X.mg "range" = none) (ha : QA X c W [a] fs) (hs : starEach [a] X.env = [(false, eval a X.env)] := by rfl) : QI X c W tg (.Call (.Name "range" p) [a] [] pos) (fRange rng1P fs) := pi_weak (pi_range1 hg hm ha hs) fun σ H R h => by
  obtain ⟨r, ev, S, x, h⟩ := h
  refine tX.of x h.bind fun vs H1 ⟨r1, S1, ws, e1, s1, t1, q1, h1⟩ => ?_
  obtain ⟨ds, qd, h2⟩ := rdAll_run h1 s1 q1
  obtain ⟨z, ez, h3⟩ := tX_last (b := Itr 0 0) h2
  unfold rng1P at ez
  split at ez
  · split at ez
    · rename_i hb
      cases ez
      obtain ⟨v, rfl, q⟩ := qd.one
      cases q.int
      exact ⟨_, rfl, by omega, by omega, h3.pure rfl s1 t1 ⟨_, yields_range, True.intro⟩⟩
    · cases ez
  · cases ez
theorem qi_range2 {p : Pos} (hg : Gl X "range") (hm : X.mg "range" = none) (ha : QA X c W [a, b] fs) (hs : starEach [a, b] X.env = [(false, eval a X.env), (false, eval b X.env)] := by rfl) (hs2 : starEach [b] X.env = [(false, eval b X.env)] := by rfl) : QI X c W tg (.Call (.Name "range" p) [a, b] [] pos) (fRange rng2P fs) := pi_weak (pi_range2 hg hm ha hs hs2) fun σ H R h => by
  obtain ⟨r, ev, S, x, h⟩ := h
  refine tX.of x h.bind fun vs H1 ⟨r1, S1, ws, e1, s1, t1, q1, h1⟩ => ?_
  obtain ⟨ds, qd, h2⟩ := rdAll_run h1 s1 q1
  obtain ⟨z, ez, h3⟩ := tX_last (b := Itr 0 0) h2
  unfold rng2P at ez
  split at ez
  · split at ez
    · rename_i hb
      cases ez
      obtain ⟨v, u, rfl, q, q2⟩ := qd.two
      cases q.int
      cases q2.int
      exact ⟨_, _, rfl, by omega, h3.pure rfl s1 t1 ⟨_, yields_range, True.intro⟩⟩
    · cases ez
  · cases ez

/-! ### for, while -/
def loopF (g : Vl → Ev → Option Ev) (fb : SM) : List PyData → SM
  | [] => fun ev S => some (.nx, ev, S)
  | d :: ds => fun ev S => match g (.d d) ev with
    | none => none
    | some ev1 => match fb ev1 S with
      | none => none
      | some (.nx, ev2, S2) => loopF g fb ds ev2 S2
      | some (.ct, ev2, S2) => loopF g fb ds ev2 S2
      | some (.bk, ev2, S2) => some (.nx, ev2, S2)
      | some (.rt w, ev2, S2) => some (.rt w, ev2, S2)
      | some (.ex x, ev2, S2) => some (.ex x, ev2, S2)
def sFor (fi : Ev → M (List PyData)) (g : Vl → Ev → Option Ev) (fb : SM) : SM := fun ev => onE (fi ev) ev fun ds S => loopF g fb ds ev S
def sWhile (t : Ev → M Bool) (fb : SM) : Nat → SM
  | 0 => fun _ _ => none
  | n + 1 => fun ev => onE (t ev) ev fun b S => match b with
    | false => some (.nx, ev, S)
    | true => match fb ev S with
      | none => none
      | some (.nx, ev2, S2) => sWhile t fb n ev2 S2
      | some (.ct, ev2, S2) => sWhile t fb n ev2 S2
      | some (.bk, ev2, S2) => some (.nx, ev2, S2)
      | some (.rt w, ev2, S2) => some (.rt w, ev2, S2)
      | some (.ex x, ev2, S2) => some (.ex x, ev2, S2)
theorem Rel.ext' {r r1 : Lv} {σ : L2.St} {H H1 : Hp} {ev : Ev} {S : Sto} (x : Rel X c r σ H ev S) (e : Ext false r r1 H H1) (s : StoRel (wg X) X.K r1 H1 S) : Rel X c r1 σ H1 ev S := x.ext e.up s (tabs_ext e x.tabs)
theorem qs_for {it : Expr} {body : List Stmt} {fi : Ev → M (List PyData)} {g : Vl → Ev → Option Ev} {is : List Nat} {fb : SM} (hp : PassesOwn (model X.prog X.w) X.A X.env X.xe) (hc : X.calm = true) (hi : QI X c W tg it fi) (hg : QG X c tg g is) (hb : QSs X c W body fb)
    (hs : ∀ x, foldedSetIterable it X.env x = pure x := by intro _; rfl) : QS X c W (.For tg it body [] pos) (sFor fi g fb) := by
  refine ps_weak (ps_for hp hc hi hg hb hs) fun D σ H ⟨r, ev, S, x, h⟩ => ?_
  refine tX.of x (h.onE x) fun J H1 ⟨r1, S1, ds, e1, x1, ⟨F, Y, z1⟩, h1⟩ => ?_
  refine ⟨fun i m σ H => m = ds.length - i ∧ i ≤ ds.length ∧ ∃ r ev S, Rel X c r σ H ev S ∧ F r H ∧ sRun X c W r H D (loopF g fb (ds.drop i) ev S), ⟨_, rfl, Nat.zero_le _, r1, ev, S1, x1, z1, h1⟩, ?_⟩
  rintro i m σ H ⟨rfl, hi, r, ev, S, x, z, h⟩
  by_cases hl : i < ds.length
  · refine .inr ⟨Y.go _ _ _ z hl, fun σ' H' => ∃ r ev S, Rel X c r σ' H' ev S ∧ F r H' ∧ sRun X c W r H' D (loopF g fb (ds.drop (i + 1)) ev S), fun σ' H' q => ⟨ds.length - (i + 1), by omega, rfl, hl, q⟩, fun v H' y => ?_⟩
    have hd : ds[i]? = some ds[i] := List.getElem?_eq_getElem hl
    obtain ⟨E, s', q⟩ := Y.yld _ _ _ _ _ _ _ z x.sto hd y
    have z' := Y.ext _ _ _ _ _ z E
    have x' := x.ext' E s'
    have h' := h.ext E.up
    rw [List.drop_eq_getElem_cons hl] at h'
    simp only [loopF] at h'
    split at h'
    · exact (none_run h').elim
    · rename_i ev1 eg
      refine ⟨r, ev, S, .d ds[i], ev1, x', q, eg, fun σ1 x1 _ => ⟨r, ev1, S, x1, ?_⟩⟩
      cases eb : fb ev1 S with
      | none =>
        rw [eb] at h'
        exact (none_run h').elim
      | some p =>
        obtain ⟨fl, ev2, S2⟩ := p
        rw [eb] at h'
        refine ⟨fl, ev2, S2, rfl, ?_⟩
        cases fl with
        | nx => exact fun r' σ' H'' e' x'' => ⟨r', ev2, S2, x'', Y.ext _ _ _ _ _ z' e', h'.ext e'⟩
        | ct => exact fun r' σ' H'' e' x'' => ⟨r', ev2, S2, x'', Y.ext _ _ _ _ _ z' e', h'.ext e'⟩
        | bk =>
          obtain ⟨fl, ev3, S3, e3, h3⟩ := h'
          cases e3
          exact fun r' σ' H'' e' x'' => h3 r' σ' H'' e' x''
        | rt w =>
          obtain ⟨fl, ev3, S3, e3, h3⟩ := h'
          cases e3
          exact h3
        | ex y =>
          obtain ⟨fl, ev3, S3, e3, h3⟩ := h'
          cases e3
          exact h3
  · have e : i = ds.length := by omega
    subst e
    rw [List.drop_length] at h
    exact .inl ⟨Y.stop _ _ z, h.nx x⟩
theorem qs_while {cc : Expr} {body : List Stmt} {t : Ev → M Bool} {fb : SM} (n : Nat) (hp : PassesOwn (model X.prog X.w) X.A X.env X.xe) (hc : QT X c W cc t) (hb : QSs X c W body fb) : QS X c W (.While cc body [] pos) (sWhile t fb n) := by
  refine ps_weak (ps_while hp hc hb) fun D σ H ⟨r, ev, S, x, h⟩ => ?_
  refine ⟨fun m σ H => ∃ r ev S, Rel X c r σ H ev S ∧ sRun X c W r H D (sWhile t fb m ev S), ⟨n, r, ev, S, x, h⟩, ?_⟩
  rintro m σ H ⟨r, ev, S, x, h⟩
  cases m with
  | zero => exact (none_run h).elim
  | succ m =>
    refine tX.of x (h.onE x) fun b H1 ⟨r1, S1, b', e1, x1, q1, h1⟩ => ?_
    cases q1
    cases b with
    | false =>
      rw [if_neg (by decide)]
      exact h1.nx x1
    | true =>
      rw [if_pos rfl]
      refine ⟨fun σ' H' => ∃ r ev S, Rel X c r σ' H' ev S ∧ sRun X c W r H' D (sWhile t fb m ev S), fun σ' H' q => ⟨m, by omega, q⟩, r1, ev, S1, x1, ?_⟩
      try dsimp only at h1
      cases eb : fb ev S1 with
      | none =>
        rw [eb] at h1
        exact (none_run h1).elim
      | some p =>
        obtain ⟨fl, ev2, S2⟩ := p
        rw [eb] at h1
        refine ⟨fl, ev2, S2, rfl, ?_⟩
        cases fl with
        | nx => exact fun r' σ' H'' e' x'' => ⟨r', ev2, S2, x'', h1.ext e'⟩
        | ct => exact fun r' σ' H'' e' x'' => ⟨r', ev2, S2, x'', h1.ext e'⟩
        | bk =>
          obtain ⟨fl, ev3, S3, e3, h3⟩ := h1
          cases e3
          exact fun r' σ' H'' e' x'' => h3 r' σ' H'' e' x''
        | rt w =>
          obtain ⟨fl, ev3, S3, e3, h3⟩ := h1
          cases e3
          exact h3
        | ex y =>
          obtain ⟨fl, ev3, S3, e3, h3⟩ := h1
          cases e3
          exact h3
end
end DD
/-! part DX -/
set_option Elab.async false
set_option linter.all false
set_option maxRecDepth 100000
set_option maxHeartbeats 4000000
namespace DD
open PySem PySem.Spec PyProof.Rows L2 LamX

/-! ### list comprehensions -/
def compL (g : Vl → Ev → Option Ev) (t : Ev → M Bool) (el : Ev → M Vl) (ev : Ev) : List PyData → Sto → Option (List PyData × Sto)
  | [], S => some ([], S)
  | d :: ds, S => match g (.d d) ev with
    | none => none
    | some ev1 => match t ev1 S with
      | some (.ok true, S1) => match el ev1 S1 with
        | some (.ok (.d z), S2) => match compL g t el ev ds S2 with
          | some (zs, S3) => some (z :: zs, S3)
          | none => none
        | _ => none
      | some (.ok false, S1) => compL g t el ev ds S1
      | _ => none
def fYes : Ev → M Bool := fun _ => pure true
def fComp (fi : Ev → M (List PyData)) (g : Vl → Ev → Option Ev) (t : Ev → M Bool) (el : Ev → M Vl) (own : List Nat) : Ev → M Vl := fun ev => do
  let ds ← fi ev
  fun S => match compL g t el (wipeE ev own) ds S with
    | some (zs, S') => if zs.length ≤ 1000000 then some (.ok (.d (.list zs)), S') else none
    | none => none
def QTs (X : Cx) (c : Cf) (W : WX) (ifs : List Expr) (t : Ev → M Bool) : Prop := PTs X ifs (tT X c W t)
abbrev W0 : WX := fun _ _ _ _ => False
section
variable {X : Cx} {c : Cf} {W : WX} {e : Expr} {pos : Pos} {K : PySem.W.Frag} {wd : Wg} {mg : Str → Option Value} {r : Lv} {H : Hp} {S : Sto} {σ : L2.St} {ev : Ev} {D : Addr}
theorem pts_weak {X : Cx} {ifs : List Expr} {t t' : TT} (h : PTs X ifs t) (k : ∀ σ H Q, t' σ H Q → t σ H Q) : PTs X ifs t' := ⟨fun pins s σ H Q I q => h.run pins s σ H Q I (k _ _ _ q)⟩
theorem qts_nil : QTs X c W [] fYes := pts_weak pts_nil fun σ H Q ⟨r, ev, S, x, h⟩ => h.pure (a := true) rfl x.sto x.tabs rfl
theorem qts_one {t : Ev → M Bool} (h : QT X c W e t) : QTs X c W [e] t := pts_one h
theorem EvR.hide (h : EvR K mg r σ H ev) (hD : H D = none) : EvR K mg (r.hide D) σ (upd H D (.lst [])) ev := fun i w q => by
  obtain ⟨v, h1, h2⟩ := h i w q
  refine ⟨v, h1, ?_⟩
  cases w with
  | d x => exact Rp.hide (show Rp K r H v x from h2) hD
  | m n => exact h2
  | f x => exact h2
  | r lo hi =>
    obtain ⟨a, g1, g2⟩ := h2
    exact ⟨a, by rw [upd_ne (ne_of_none g1 hD)]; exact g1, g2⟩
  | p a b => exact Rv.hide (show Rv K r H v (.p a b) from h2) hD
theorem EvR.putH {xs : List V} (h : EvR K mg r σ H ev) (s : StoRel wd K r H S) (hD : D ∈ r.hid) : EvR K mg r σ (upd H D (.lst xs)) ev := fun i w q => by
  obtain ⟨v, h1, h2⟩ := h i w q
  refine ⟨v, h1, ?_⟩
  cases w with
  | d x =>
    have := Ext.putH (xs := xs) s.mu hD (RpAll.cons (show Rp K r H v x from h2) .nil)
    cases this with
    | cons a _ => exact a
  | m n => exact h2
  | f x => exact h2
  | r lo hi =>
    obtain ⟨a, g1, g2⟩ := h2
    exact ⟨a, by rw [upd_ne (fun z => by have := s.mu D (.inr hD); rw [← z, g1] at this; exact this)]; exact g1, g2⟩
  | p a b => exact (show Rv K r H v (.p a b) from h2).map (fun _ _ q => sqf_putH s.mu hD q) (fun _ _ q => sqt_putH s.mu hD q) fun _ _ q => q
theorem tabs_put {T : List (Addr × Str)} {ys xs : List V} (t : Tabs T H) (hD : H D = some (.lst ys)) : Tabs T (upd H D (.lst xs)) := by
  have kp : ∀ a o, H a = some o → (∀ xs, o ≠ .lst xs) → upd H D (.lst xs) a = some o := fun a o h n => by
    rw [upd_ne (fun (z : a = D) => by rw [z, hD] at h; exact n ys (Option.some.inj h).symm)]
    exact h
  intro p hp
  obtain ⟨ps, h1, h2, h3⟩ := t p hp
  refine ⟨ps, kp _ _ h1 (fun xs => by intro z; cases z), h2, fun pos cv hc => ?_⟩
  obtain ⟨cc, e1, e2⟩ := h3 pos cv hc
  exact ⟨cc, e1, kp _ _ e2 (fun xs => by intro z; unfold LamX.CodeO at z; cases z)⟩
/-- what a comprehension has come to: behind i items -/
structure CompI (X : Cx) (c : Cf) (r1 : Lv) (H1 : Hp) (D : Addr) (F : Lv → Hp → Prop) (σ0 : L2.St) (evw : Ev) (r : Lv) (H : Hp) (S : Sto) (acc : List PyData) : Prop where
  ext : Ext c.lam r1 r H1 H
  sto : StoRel (wg X) X.K (r.hide D) H S
  tabs : Tabs c.T H
  f : F (r.hide D) H
  at_ : ∃ accV, H D = some (.lst accV) ∧ RpAll X.K (r.hide D) H accV acc
  ev : EvR X.K X.mg (r.hide D) σ0 H evw
theorem CompI.start {r1 : Lv} {H1 : Hp} {S1 : Sto} {F : Lv → Hp → Prop} {J : It} {ds : List PyData} {vs : List Nat} (Y : Yields (wg X) X.K J ds F) (z : F r1 H1) (s : StoRel (wg X) X.K r1 H1 S1) (t : Tabs c.T H1) (q : EvR X.K X.mg r1 σ H1 ev) (hD : H1 D = none) :
    CompI X c r1 H1 D F (L2.wipe σ vs) (wipeE ev vs) r1 (upd H1 D (.lst [])) S1 [] :=
  ⟨Ext.new s.mu hD, s.hide hD, tabs_ext (Ext.new (lam := false) s.mu hD) t, Y.hide _ _ _ _ z s hD, ⟨[], upd_same, .nil⟩, (q.wipe vs).hide hD⟩
/-- a step within: the live ones may grow -/
theorem CompI.step {r1 r : Lv} {H1 H H' : Hp} {F : Lv → Hp → Prop} {J : It} {ds acc : List PyData} {evw : Ev} {σ0 : L2.St} {S' : Sto} {r' : Lv} (Y : Yields (wg X) X.K J ds F) (C : CompI X c r1 H1 D F σ0 evw r H S acc) (E : Ext c.lam (r.hide D) r' H H') (s : StoRel (wg X) X.K r' H' S') (t : Tabs c.T H') :
    ∃ r2, r' = r2.hide D ∧ CompI X c r1 H1 D F σ0 evw r2 H' S' acc := by
  obtain ⟨r2, rfl, e2⟩ := C.ext.under E
  obtain ⟨accV, h1, h2⟩ := C.at_
  refine ⟨r2, rfl, e2, s, t, Y.ext _ _ _ _ _ C.f E, ⟨accV, ?_, h2.ext E⟩, C.ev.ext E⟩
  rcases E.keep D _ h1 (C.sto.apart D List.mem_cons_self) with q | ⟨_, ps, q⟩
  · exact q
  · cases q
theorem CompI.put {r1 r : Lv} {H1 H : Hp} {F : Lv → Hp → Prop} {J : It} {ds acc : List PyData} {evw : Ev} {σ0 : L2.St} {z : PyData} {v : V} (Y : Yields (wg X) X.K J ds F) (C : CompI X c r1 H1 D F σ0 evw r H S acc) (q : Rp X.K (r.hide D) H v z) (hD : H1 D = none) :
    ∀ accV, H D = some (.lst accV) → CompI X c r1 H1 D F σ0 evw r (upd H D (.lst (accV ++ [v]))) S (acc ++ [z]) := fun accV hV => by
  obtain ⟨accV', h1, h2⟩ := C.at_
  rw [hV] at h1
  cases h1
  have hm : D ∈ (r.hide D).hid := List.mem_cons_self
  exact ⟨C.ext.fresh hD, C.sto.putH hm, tabs_put C.tabs hV, Y.putH _ _ _ _ _ C.f C.sto hm, ⟨_, upd_same, Ext.putH C.sto.mu hm (h2.append (.cons q .nil))⟩, C.ev.putH C.sto hm⟩
theorem CompI.done {r1 r : Lv} {H1 H : Hp} {F : Lv → Hp → Prop} {acc : List PyData} {evw : Ev} {σ0 : L2.St} (C : CompI X c r1 H1 D F σ0 evw r H S acc) (n1 : r1.no D) : StoRel (wg X) X.K r H S ∧ Rp X.K r H (.ref D) (.list acc) := by
  obtain ⟨accV, h1, h2⟩ := C.at_
  refine ⟨C.sto.show, .lst (.inl ⟨h1, C.sto.apart D List.mem_cons_self, ?_⟩) h2.show⟩
  obtain ⟨n, rfl, _⟩ := C.ext.pre
  exact n1.2
theorem comp_weak {fi : Ev → M (List PyData)} {g : Vl → Ev → Option Ev} {t : Ev → M Bool} {el : Ev → M Vl} {own is : List Nat} (hi : ∀ i ∈ is, i ∈ own) {Q : VK} (h : tE X c W (fComp fi g t el own) σ H Q) :
    tLc (tX X c W (RI (wg X) X.K) fi) (tG X c g is) (tT X c W0 t) (tE X c W0 el) own σ H Q := by
  obtain ⟨r, ev, S, x, h⟩ := h
  refine tX.of x h.bind fun J H1 ⟨r1, S1, ds, e1, s1, t1, ⟨F, Y, z1⟩, h1⟩ D hD => ?_
  have x1 := x.ext e1 s1 t1
  obtain ⟨o, Se, eo, hq⟩ := h1
  dsimp only at eo
  cases ec : compL g t el (wipeE ev own) ds S1 with
  | none => rw [ec] at eo; cases eo
  | some p =>
    obtain ⟨zs, Sx⟩ := p
    rw [ec] at eo
    dsimp only at eo
    split at eo
    · rename_i hz
      cases eo
      refine ⟨fun i m H => m = ds.length - i ∧ i ≤ ds.length ∧ ∃ r S acc rest, CompI X c r1 H1 D F (L2.wipe σ own) (wipeE ev own) r H S acc ∧ compL g t el (wipeE ev own) (ds.drop i) S = some (rest, Se) ∧ acc ++ rest = zs, ⟨_, rfl, Nat.zero_le _, r1, S1, [], zs, CompI.start Y z1 s1 t1 x1.ev hD, ec, rfl⟩, ?_⟩
      rintro i m H2 ⟨rfl, hil, r, S, acc, rest, C, e2, e3⟩
      by_cases hl : i < ds.length
      · refine .inr ⟨Y.go _ _ _ C.f hl, fun H' => ∃ r S acc rest, CompI X c r1 H1 D F (L2.wipe σ own) (wipeE ev own) r H' S acc ∧ compL g t el (wipeE ev own) (ds.drop (i + 1)) S = some (rest, Se) ∧ acc ++ rest = zs, fun H' q => ⟨ds.length - (i + 1), by omega, rfl, hl, q⟩, fun v H' y => ?_⟩
        have hd : ds[i]? = some ds[i] := List.getElem?_eq_getElem hl
        obtain ⟨E, s', q⟩ := Y.yld _ _ _ _ _ _ _ C.f C.sto hd y
        obtain ⟨r2, er2, C'⟩ := C.step Y E.up s' (tabs_ext E C.tabs)
        rw [List.drop_eq_getElem_cons hl] at e2
        simp only [compL] at e2
        have xb : Rel X c (r.hide D) (L2.wipe σ own) H' (wipeE ev own) S := ⟨s', tabs_ext E C.tabs, C.ev.ext E, by rw [wipe_length]; exact x.len⟩
        have hr2 : r2.hide D = r.hide D := er2.symm
        split at e2
        · cases e2
        · rename_i ev1 eg
          refine ⟨r.hide D, wipeE ev own, S, .d ds[i], ev1, xb, q, eg, fun σ2 x2 sb => ⟨?_, ?_⟩⟩
          · rw [wipe_eq sb hi, wipe_wipe]
          · split at e2
            · rename_i S2 et
              refine ⟨r.hide D, ev1, S, x2, .ok true, S2, et, fun r3 b H3 E3 s3 t3 q3 => ?_⟩
              cases q3
              rw [if_pos rfl]
              rw [← hr2] at E3
              obtain ⟨r4, rfl, C3⟩ := C'.step Y E3 s3 t3
              have x3 : Rel X c (r4.hide D) σ2 H3 ev1 S2 := by
                rw [← hr2] at x2
                exact x2.ext E3 s3 t3
              split at e2
              · rename_i z S4 ee
                refine ⟨r4.hide D, ev1, S2, x3, .ok (.d z), S4, ee, fun r5 v5 H5 E5 s5 t5 q5 => ?_⟩
                obtain ⟨r6, rfl, C5⟩ := C3.step Y E5 s5 t5
                split at e2
                · rename_i zs' S6 er
                  cases e2
                  obtain ⟨accV, hV, hR⟩ := C5.at_
                  have hlen : accV.length < sizeLine := by
                    rw [hR.length, sizeLine_eq]
                    have := congrArg List.length e3
                    simp at this
                    omega
                  have q5' : Rp X.K (r6.hide D) H5 v5 z := by
                    exact q5
                  exact ⟨accV, hV, hlen, r6, S4, acc ++ [z], zs', C5.put Y q5' hD accV hV, er, by rw [← e3]; simp⟩
                · cases e2
              · cases e2
            · rename_i S2 et
              refine ⟨r.hide D, ev1, S, x2, .ok false, S2, et, fun r3 b H3 E3 s3 t3 q3 => ?_⟩
              cases q3
              rw [if_neg (by decide)]
              rw [← hr2] at E3
              obtain ⟨r4, rfl, C3⟩ := C'.step Y E3 s3 t3
              exact ⟨r4, S2, acc, rest, C3, e2, e3⟩
            · cases e2
      · have e : i = ds.length := by omega
        subst e
        rw [List.drop_length] at e2
        cases e2
        rw [List.append_nil] at e3
        subst e3
        obtain ⟨sd, qd⟩ := C.done (s1.no hD)
        exact .inl ⟨Y.stop _ _ C.f, hq r (.ref D) H2 C.ext sd C.tabs qd⟩
    · cases eo
end
section
variable {X : Cx} {c : Cf} {W : WX} {pos : Pos} {s : Shared} {H0 : Hp} {scope : Scope} {cenv : Env} {fp : List Addr}
theorem rel_blk : Rel (X.blk s H0 scope cenv fp) c = Rel X c := by
  funext r σ H ev S
  exact propext ⟨fun h => ⟨h.1, h.2, h.3, h.4⟩, fun h => ⟨h.1, h.2, h.3, h.4⟩⟩
theorem tX_blk {α β : Type} {R : Lv → Hp → β → α → Prop} {f : Ev → M α} : tX (X.blk s H0 scope cenv fp) c W R f = tX X c W R f := by
  unfold tX
  rw [rel_blk]
  rfl
theorem tG_blk {g : Vl → Ev → Option Ev} {is : List Nat} : tG (X.blk s H0 scope cenv fp) c g is = tG X c g is := by
  unfold tG
  rw [rel_blk]
theorem pts_blk {ifs : List Expr} {t : Ev → M Bool} (h : QTs (X.blk s H0 scope cenv fp) c W0 ifs t) : PTs (X.blk s H0 scope cenv fp) ifs (tT X c W0 t) := by
  have e : tT (X.blk s H0 scope cenv fp) c W0 t = tT X c W0 t := tX_blk
  unfold QTs at h
  rw [e] at h
  exact h
theorem pe_blk {e : Expr} {t : Ev → M Vl} (h : QE (X.blk s H0 scope cenv fp) c W0 e t) : PE (X.blk s H0 scope cenv fp) e (tE X c W0 t) := by
  have q : tE (X.blk s H0 scope cenv fp) c W0 t = tE X c W0 t := tX_blk
  unfold QE at h
  rw [q] at h
  exact h
theorem pi_blk {tg e : Expr} {t : Ev → M (List PyData)} (h : QI (X.blk s H0 scope cenv fp) c W0 tg e t) : PI (X.blk s H0 scope cenv fp) tg e (tX X c W0 (RI (wg X) X.K) t) := by
  have q : tX (X.blk s H0 scope cenv fp) c W0 (RI (wg (X.blk s H0 scope cenv fp)) (X.blk s H0 scope cenv fp).K) t = tX X c W0 (RI (wg X) X.K) t := tX_blk
  unfold QI at h
  rw [q] at h
  exact h
theorem pg_blk {tg : Expr} {g : Vl → Ev → Option Ev} {is : List Nat} (h : QG (X.blk s H0 scope cenv fp) c tg g is) : PG (X.blk s H0 scope cenv fp) tg (tG X c g is) := by
  unfold QG at h
  rw [tG_blk] at h
  exact h
end
section
variable {X : Cx} {c : Cf} {W : WX} {pos : Pos}
theorem qe_comp {elt tg it : Expr} {ifs : List Expr} {scope : Scope} {own : List (Str × Nat)} {fi : Ev → M (List PyData)} {g : Vl → Ev → Option Ev} {t : Ev → M Bool} {el : Ev → M Vl} {is : List Nat} (hc : X.calm = true) (hN : X.N.Nodup) (hi : QI X c W tg it fi) (ok : BlkOk X.N X.env.scope scope own)
    (hg : ∀ (s : Shared) (H : Hp) (C : Addr) (cl : List (Str × Addr)) (fp : List Addr), QG (X.blk s H scope (compEnvC scope cl C X.env) fp) c tg g is) (ht : ∀ (s : Shared) (H : Hp) (C : Addr) (cl : List (Str × Addr)) (fp : List Addr), QTs (X.blk s H scope (compEnvC scope cl C X.env) fp) c W0 ifs t)
    (he : ∀ (s : Shared) (H : Hp) (C : Addr) (cl : List (Str × Addr)) (fp : List Addr), QE (X.blk s H scope (compEnvC scope cl C X.env) fp) c W0 elt el) (his : ∀ i ∈ is, i ∈ own.map (·.2) := by decide) (hs : ∀ x, foldedSetIterable it X.env x = pure x := by intro _; rfl) :
    QE X c W (.ListComp elt [⟨tg, it, ifs, 0⟩] scope pos) (fComp fi g t el (own.map (·.2))) := by
  refine pe_weak (pe_lc (wi := tX X c W (RI (wg X) X.K) fi) (g := tG X c g is) (tt := tT X c W0 t) (te := tE X c W0 el) hc hN hi ok (fun s H C cl fp => pg_blk (hg s H C cl fp)) (fun s H C cl fp => pts_blk (ht s H C cl fp)) (fun s H C cl fp => pe_blk (he s H C cl fp)) hs) fun σ H Q h => ?_
  exact comp_weak his h
theorem qs_comp (i : Nat) {y : Str} {py : Pos} {elt tg it : Expr} {ifs : List Expr} {scope : Scope} {own : List (Str × Nat)} {pos spos : Pos} {fi : Ev → M (List PyData)} {g : Vl → Ev → Option Ev} {t : Ev → M Bool} {el : Ev → M Vl} {is : List Nat} (hc : X.calm = true) (hN : X.N.Nodup) (hi : QI X c W tg it fi) (ok : BlkOk X.N X.env.scope scope own)
    (hg : ∀ (s : Shared) (H : Hp) (C : Addr) (cl : List (Str × Addr)) (fp : List Addr), QG (X.blk s H scope (compEnvC scope cl C X.env) fp) c tg g is) (ht : ∀ (s : Shared) (H : Hp) (C : Addr) (cl : List (Str × Addr)) (fp : List Addr), QTs (X.blk s H scope (compEnvC scope cl C X.env) fp) c W0 ifs t)
    (he : ∀ (s : Shared) (H : Hp) (C : Addr) (cl : List (Str × Addr)) (fp : List Addr), QE (X.blk s H scope (compEnvC scope cl C X.env) fp) c W0 elt el)
    (hsw : swapsWith (.ListComp elt [⟨tg, it, ifs, 0⟩] scope pos) (some (.Name y py)) spos.line X.env = pure true)
    (his : ∀ i ∈ is, i ∈ own.map (·.2) := by decide) (hy : X.N[i]? = some y := by rfl) (hyl : X.env.scope.names.lookup y = some .local := by rfl) (hs : ∀ x, foldedSetIterable it X.env x = pure x := by intro _; rfl) :
    QS X c W (.Assign [.Name y py] (.ListComp elt [⟨tg, it, ifs, 0⟩] scope pos) spos) (sSet i (fComp fi g t el (own.map (·.2)))) := by
  refine ps_weak (ps_setLc (wi := tX X c W (RI (wg X) X.K) fi) (g := tG X c g is) (tt := tT X c W0 t) (te := tE X c W0 el) hc hN hy hyl hsw hi ok (fun s H C cl fp => pg_blk (hg s H C cl fp)) (fun s H C cl fp => pts_blk (ht s H C cl fp)) (fun s H C cl fp => pe_blk (he s H C cl fp)) hs) fun D σ H ⟨r, ev, S, x, h⟩ => ?_
  have h := tX.of x (h.onE (R := Rw X.K X.mg) x) fun v H1 q => q
  refine comp_weak his ?_
  obtain ⟨r0, ev0, S0, x0, h⟩ := h
  exact ⟨r0, ev0, S0, x0, h.mono fun v H1 ⟨r1, S1, w, e1, x1, q1, h1⟩ => h1.nx (x1.set hy q1)⟩
end
end DD
/-! part DY -/
set_option Elab.async false
set_option linter.all false
set_option maxRecDepth 100000
set_option maxHeartbeats 4000000
namespace DD
open PySem PySem.Spec PyProof.Rows L2 LamX

/-! ### defs by their bodies -/
def startE (n : Nat) (ws : List Vl) : Ev := ws.map some ++ List.replicate (n - ws.length) none
/-- no name of the store from n on -/
def okV (n : Nat) : Vl → Bool
  | .d _ => true
  | .m k => decide (k < n)
  | .p a b => okV n a && okV n b
  | .f _ => false
  | .r _ _ => false
def okMO (n : Nat) : MO → Bool
  | .l _ => true
  | .k _ => true
  | .q ws => ws.all (okV n)
  | .w kvs => kvs.all fun p => okV n p.2
  | .o _ fs => fs.all fun p => okV n p.2
  | .z _ => true
/-- the store's first n, if they name no others -/
def cutS (n : Nat) (S : Sto) : Option Sto := if (S.take n).all (okMO n) then some (S.take n) else none
/-- what a def hands back: its own mutable list is frozen -/
def fin (n : Nat) (w : Vl) (S : Sto) : Option (Except Str Vl × Sto) := match cutS n S with
  | none => none
  | some T => match w with
    | .m k => if k < n then some (.ok (.m k), T) else match S[k]? with
      | some (.l xs) => some (.ok (.d (.list xs)), T)
      | _ => none
    | .d x => some (.ok (.d x), T)
    | .f x => some (.ok (.f x), T)
    | .r lo hi => some (.ok (.r lo hi), T)
    | .p a b => if okV n a && okV n b then some (.ok (.p a b), T) else none
def mDef (n : Nat) (f : SM) : List Vl → M Vl := fun ws S => match f (startE n ws) S with
  | some (.nx, _, S') => fin S.length (.d .none) S'
  | some (.rt w, _, S') => fin S.length w S'
  | some (.ex x, _, S') => match cutS S.length S' with
    | some T => some (.error x, T)
    | none => none
  | _ => none
/-- a def whose objects live on -/
def mDefK (n : Nat) (f : SM) : List Vl → M Vl := fun ws S => match f (startE n ws) S with
  | some (.nx, _, S') => some (.ok (.d .none), S')
  | some (.rt w, _, S') => some (.ok w, S')
  | some (.ex x, _, S') => some (.error x, S')
  | _ => none
def cf0 : Cf := ⟨[], false⟩
section
variable {wd : Wg} {K : PySem.W.Frag} {mg : Str → Option Value} {r r' : Lv} {H H' : Hp} {S S' : Sto}
theorem start_ev {N : List Str} : ∀ {vs : List V} {ws : List Vl}, RwAll K mg r H vs ws → vs.length ≤ N.length → EvR K mg r (L2.start N vs) H (startE N.length ws) := fun {vs ws} q hl i w e => by
  unfold startE at e
  unfold L2.start
  have hlen := q.length
  by_cases hi : i < ws.length
  · rw [List.getElem?_append_left (by simpa using hi), List.getElem?_map] at e
    rw [List.getElem?_append_left (by simpa [hlen] using hi), List.getElem?_map]
    have get : ∀ {vs : List V} {ws : List Vl} {i : Nat} {w : Vl}, RwAll K mg r H vs ws → ws[i]? = some w → ∃ v, vs[i]? = some v ∧ Rw K mg r H v w := by
      intro vs ws i w q
      induction q generalizing i with
      | nil => intro e; simp at e
      | @cons v vs w0 ws h t ih =>
        intro e
        cases i with
        | zero => simp at e; subst e; exact ⟨_, rfl, h⟩
        | succ i => exact ih (by simpa using e)
    cases e2 : ws[i]? with
    | none => rw [e2] at e; cases e
    | some w' =>
      rw [e2] at e
      cases e
      obtain ⟨v, h1, h2⟩ := get q e2
      exact ⟨v, by rw [h1]; rfl, h2⟩
  · rw [List.getElem?_append_right (by simpa using hi), List.getElem?_replicate] at e
    split at e <;> cases e
theorem start_len {N : List Str} {vs : List V} (h : vs.length ≤ N.length) : (L2.start N vs).length = N.length := by
  unfold L2.start
  simp
  omega
theorem Ext.cut (e : Ext false r r' H H') : Ext false r r H H' := ⟨⟨[], by simp, by simp⟩, e.keep, e.dom, e.mu, e.lock⟩
theorem Rp.cut {v : V} {d : PyData} (e : ∃ new, r' = ⟨r.st ++ new, r.hid⟩) (h : Rp K r' H v d) : Rp K r H v d := by
  obtain ⟨n, rfl⟩ := e
  refine h.map (fun a xs h => ?_) fun a xs h => h
  rcases h with ⟨h, hn⟩ | h
  · exact .inl ⟨h, fun hm => hn.1 (List.mem_append_left _ hm), hn.2⟩
  · exact .inr h
theorem RpAll.cut' {v : List V} {d : List PyData} (e : ∃ new, r' = ⟨r.st ++ new, r.hid⟩) (h : RpAll K r' H v d) : RpAll K r H v d := by
  obtain ⟨n, rfl⟩ := e
  refine h.map (fun a xs h => ?_) fun a xs h => h
  rcases h with ⟨h, hn⟩ | h
  · exact .inl ⟨h, fun hm => hn.1 (List.mem_append_left _ hm), hn.2⟩
  · exact .inr h
theorem sqf_cut {a : Addr} {xs : List V} (e : ∃ new, r' = ⟨r.st ++ new, r.hid⟩) (h : SqF K r' H a xs) : SqF K r H a xs := by
  obtain ⟨n, rfl⟩ := e
  rcases h with ⟨h, hn⟩ | h
  · exact .inl ⟨h, fun hm => hn.1 (List.mem_append_left _ hm), hn.2⟩
  · exact .inr h
theorem Rv.cut (e : ∃ new, r' = ⟨r.st ++ new, r.hid⟩) : ∀ {w : Vl} {v : V}, okV r.st.length w = true → Rv K r' H v w → Rv K r H v w
  | .d x, v, _, h => Rp.cut e (show Rp K r' H v x from h)
  | .m k, v, o, ⟨a, h, q⟩ => by
    obtain ⟨n, rfl⟩ := e
    have hk : k < r.st.length := of_decide_eq_true o
    refine ⟨a, ?_, q⟩
    have h : (r.st ++ n)[k]? = some a := h
    rw [List.getElem?_append_left hk] at h
    exact h
  | .p x y, v, o, ⟨a, u1, u2, h, h1, h2, q⟩ => by
    obtain ⟨o1, o2⟩ := Bool.and_eq_true_iff.mp o
    exact ⟨a, u1, u2, h, Rv.cut e o1 h1, Rv.cut e o2 h2, q⟩
theorem RvAll.cut (e : ∃ new, r' = ⟨r.st ++ new, r.hid⟩) {vs : List V} {ws : List Vl} (h : RvAll K r' H vs ws) : ws.all (okV r.st.length) = true → RvAll K r H vs ws := by
  induction h with
  | nil => exact fun _ => .nil
  | cons h _ ih =>
    intro o
    obtain ⟨o1, o2⟩ := Bool.and_eq_true_iff.mp (by rw [List.all_cons] at o; exact o)
    exact .cons (h.cut e o1) (ih o2)
theorem RvKV.cut (e : ∃ new, r' = ⟨r.st ++ new, r.hid⟩) {ps : List (NestedKey × Addr × V)} {qs : List (NestedKey × Vl)} (h : RvKV K r' H ps qs) : (qs.all fun p => okV r.st.length p.2) = true → RvKV K r H ps qs := by
  induction h with
  | nil => exact fun _ => .nil
  | cons h1 h2 _ ih =>
    intro o
    obtain ⟨o1, o2⟩ := Bool.and_eq_true_iff.mp (by rw [List.all_cons] at o; exact o)
    exact .cons (fun ks q => ⟨(h1 ks q).1.cut e, (h1 ks q).2⟩) (h2.cut e o1) (ih o2)
theorem RvFs.cut (e : ∃ new, r' = ⟨r.st ++ new, r.hid⟩) {ps : List (Str × V)} {qs : List (Str × Vl)} (h : RvFs K r' H ps qs) : (qs.all fun p => okV r.st.length p.2) = true → RvFs K r H ps qs := by
  induction h with
  | nil => exact fun _ => .nil
  | cons h2 _ ih =>
    intro o
    obtain ⟨o1, o2⟩ := Bool.and_eq_true_iff.mp (by rw [List.all_cons] at o; exact o)
    exact .cons (h2.cut e o1) (ih o2)
theorem RpKV.cut (e : ∃ new, r' = ⟨r.st ++ new, r.hid⟩) {ps : List (NestedKey × Addr × V)} {qs : List (NK × PyData)} (h : RpKV K r' H ps qs) : RpKV K r H ps qs := h.map (fun _ _ h => sqf_cut e h) fun _ _ h => h
theorem MoR.cut {a : Addr} {o : MO} (e : ∃ new, r' = ⟨r.st ++ new, r.hid⟩) (h : MoR wd K r' H a o) (ok : okMO r.st.length o = true) : MoR wd K r H a o := by
  cases o with
  | l xs => obtain ⟨vs, h1, h2⟩ := h; exact ⟨vs, h1, h2.cut' e⟩
  | k xs => obtain ⟨vs, h1, h2⟩ := h; exact ⟨vs, h1, h2.cut e⟩
  | q xs => obtain ⟨vs, h1, h2⟩ := h; exact ⟨vs, h1, h2.cut e ok⟩
  | w xs => obtain ⟨vs, h1, h2⟩ := h; exact ⟨vs, h1, h2.cut e ok⟩
  | o c xs => obtain ⟨C, dx, fs, m, h1, h2⟩ := h; exact ⟨C, dx, fs, m, h1, h2.cut e ok⟩
  | z xs => obtain ⟨vs, od, h1, h2⟩ := h; exact ⟨vs, od, h1, h2.cut e⟩
theorem StoRel.cut (e : ∃ new, r' = ⟨r.st ++ new, r.hid⟩) (s : StoRel wd K r' H S') {T : Sto} (hc : cutS r.st.length S' = some T) : StoRel wd K r H T := by
  unfold cutS at hc
  split at hc
  · rename_i ok
    cases hc
    have e0 := e
    obtain ⟨n, rfl⟩ := e
    have hl : r.st.length + n.length = S'.length := by have := s.len; simpa using this
    refine ⟨(List.nodup_append.mp s.nd).1, by rw [List.length_take]; omega, fun m a xs h1 h2 => ?_, s.hid, fun a ha hm => s.apart a ha (List.mem_append_left _ hm)⟩
    have hm := (List.getElem?_eq_some_iff.mp h1).1
    have ho := List.all_eq_true.mp ok _ (List.mem_of_getElem? h2)
    rw [List.getElem?_take_of_lt hm] at h2
    exact (s.ob m a xs (by show (r.st ++ n)[m]? = some a; rw [List.getElem?_append_left hm]; exact h1) h2).cut e0 ho
  · cases hc
end
theorem fin_ok {wd : Wg} {K : PySem.W.Frag} {mg : Str → Option Value} {r r' : Lv} {H H' : Hp} {S S' : Sto} {w : Vl} {o : Except Str Vl} {So : Sto} {v : V} (hlen : r.st.length = S.length) (e : Ext false r r' H H') (s : StoRel wd K r' H' S') (q : Rw K mg r' H' v w) (hf : fin S.length w S' = some (o, So)) :
    ∃ w', o = .ok w' ∧ Ext false r r H H' ∧ StoRel wd K r H' So ∧ Rw K mg r H' v w' := by
  have pre : ∃ new, r' = ⟨r.st ++ new, r.hid⟩ := by obtain ⟨n, h, _⟩ := e.pre; exact ⟨n, h⟩
  unfold fin at hf
  split at hf
  · cases hf
  rename_i T hT
  rw [← hlen] at hT
  have sc := s.cut pre hT
  cases w with
  | d x =>
    cases hf
    exact ⟨_, rfl, e.cut, sc, Rp.cut pre q⟩
  | f x =>
    cases hf
    exact ⟨_, rfl, e.cut, sc, q⟩
  | r lo hi =>
    cases hf
    exact ⟨_, rfl, e.cut, sc, q⟩
  | p a b =>
    simp only at hf
    split at hf
    · rename_i hk
      cases hf
      rw [← hlen] at hk
      exact ⟨_, rfl, e.cut, sc, Rv.rw (Rv.cut pre hk (show Rv K r' H' v (.p a b) from q))⟩
    · cases hf
  | m k =>
    obtain ⟨a, h1, rfl⟩ := q
    obtain ⟨n, rfl⟩ := pre
    have h1 : (r.st ++ n)[k]? = some a := h1
    simp only at hf
    split at hf
    · rename_i hk
      cases hf
      refine ⟨_, rfl, e.cut, sc, a, ?_, rfl⟩
      rw [List.getElem?_append_left (by rw [hlen]; exact hk)] at h1
      exact h1
    · rename_i hk
      split at hf
      · rename_i xs hx
        cases hf
        obtain ⟨vs, h3, h4⟩ := s.at_ k a xs h1 hx
        refine ⟨_, rfl, e.cut, sc, .lst (.inl ⟨h3, fun hm => ?_, fun hm => s.apart a hm (List.mem_of_getElem? h1)⟩) (h4.cut' ⟨n, rfl⟩)⟩
        have nd : (r.st ++ n).Nodup := s.nd
        obtain ⟨hlt, hget⟩ := List.getElem?_eq_some_iff.mp h1
        rw [List.getElem_append_right (by rw [hlen]; omega)] at hget
        exact (List.nodup_append.mp nd).2.2 a hm a (hget ▸ List.getElem_mem _) rfl
      · cases hf
section
variable {P : Program} {w : World} {K : PySem.W.Frag} {mg : Str → Option Value} {base : Heap}
/-- a def of the text, by the reading of its body -/
theorem has_def {x qual : Str} {st : Stmt} {f : Addr} {fd : FuncData} {N ps : List Str} {k : Nat} {fb : SM} (F : Fun K x qual st f fd) (hg : mg x = some (.ref f)) (S : FnScope N ps (defScope st)) (b : Binds K fd ps [])
    (hb : ∀ (cdv : Value) (A : Around) (outer : List Env) (s : Shared) (H : Hp) (E : XK), Room k (A.deeper (envOfC qual (defScope st) s.heap.objs.size f cdv)) →
      QSs (cxOf (L2.CX P w) P w K mg base N qual (defScope st) f cdv A outer s H E) cf0 (fun cls d _ H => E cls d H) (defBody st) fb) : Has P w K mg base (k + 1) x ps.length (mDef N.length fb) := by
  have hpl : ps.length ≤ N.length := by have := congrArg List.length S.pre; rw [List.length_take] at this; omega
  refine ⟨f, fd, ps, hg, F.kp, b, ?_⟩
  obtain ⟨oc, od, kV, doc, pm, an, cdv, ct, osl, rfl, lk, hcd⟩ := F.ex
  refine fn_of lk hcd S (fun vs H Q E h => h.1) fun A outer s H vs Q E hr hsp => ⟨_, hb cdv A outer s H E hr, ?_⟩
  obtain ⟨hn, r, Sx, ws, o, S', sto, q, e, h⟩ := hsp
  unfold mDef at e
  cases ef : fb (startE N.length ws) Sx with
  | none => rw [ef] at e; cases e
  | some p =>
    obtain ⟨fl, ev', S2⟩ := p
    rw [ef] at e
    have rel : Rel (cxOf (L2.CX P w) P w K mg base N qual (defScope st) f cdv A outer s H E) cf0 r (L2.start N vs) H (startE N.length ws) Sx := ⟨sto, fun p hp => absurd hp (by simp [cf0]), start_ev q (by omega), start_len (by omega)⟩
    refine ⟨r, _, Sx, rel, fl, ev', S2, ef, ?_⟩
    cases fl with
    | nx =>
      intro r' σ' H' E' x'
      obtain ⟨w', rfl, h1, h2, h3⟩ := fin_ok (K := K) (mg := mg) (v := .non) (w := .d .none) sto.len E' x'.sto (show Rp K r' H' .non .none from .non) e
      exact h r .non H' h1 h2 h3
    | bk => cases e
    | ct => cases e
    | rt w0 =>
      intro r' v H' E' s' _ q'
      obtain ⟨w', rfl, h1, h2, h3⟩ := fin_ok sto.len E' s' q' e
      exact h r v H' h1 h2 h3
    | ex y =>
      dsimp only at e
      split at e
      · rename_i T hT
        cases e
        obtain ⟨C, hC, h⟩ := h
        refine ⟨C, hC, fun r' σ' H' E' x' => h r H' E'.cut ?_⟩
        have pre : ∃ new, r' = ⟨r.st ++ new, r.hid⟩ := by obtain ⟨n, h, _⟩ := E'.pre; exact ⟨n, h⟩
        rw [← sto.len] at hT
        exact x'.sto.cut pre hT
      · cases e
/-- a def whose objects live on -/
theorem has_defK {x qual : Str} {st : Stmt} {f : Addr} {fd : FuncData} {N ps : List Str} {k : Nat} {fb : SM} (F : Fun K x qual st f fd) (hg : mg x = some (.ref f)) (S : FnScope N ps (defScope st)) (b : Binds K fd ps [])
    (hb : ∀ (cdv : Value) (A : Around) (outer : List Env) (s : Shared) (H : Hp) (E : XK), Room k (A.deeper (envOfC qual (defScope st) s.heap.objs.size f cdv)) →
      QSs (cxOf (L2.CX P w) P w K mg base N qual (defScope st) f cdv A outer s H E) cf0 (fun cls d _ H => E cls d H) (defBody st) fb) : Has P w K mg base (k + 1) x ps.length (mDefK N.length fb) := by
  have hpl : ps.length ≤ N.length := by have := congrArg List.length S.pre; rw [List.length_take] at this; omega
  refine ⟨f, fd, ps, hg, F.kp, b, ?_⟩
  obtain ⟨oc, od, kV, doc, pm, an, cdv, ct, osl, rfl, lk, hcd⟩ := F.ex
  refine fn_of lk hcd S (fun vs H Q E h => h.1) fun A outer s H vs Q E hr hsp => ⟨_, hb cdv A outer s H E hr, ?_⟩
  obtain ⟨hn, r, Sx, ws, o, S', sto, q, e, h⟩ := hsp
  unfold mDefK at e
  cases ef : fb (startE N.length ws) Sx with
  | none => rw [ef] at e; cases e
  | some p =>
    obtain ⟨fl, ev', S2⟩ := p
    rw [ef] at e
    have rel : Rel (cxOf (L2.CX P w) P w K mg base N qual (defScope st) f cdv A outer s H E) cf0 r (L2.start N vs) H (startE N.length ws) Sx := ⟨sto, fun p hp => absurd hp (by simp [cf0]), start_ev q (by omega), start_len (by omega)⟩
    refine ⟨r, _, Sx, rel, fl, ev', S2, ef, ?_⟩
    cases fl with
    | nx =>
      cases e
      intro r' σ' H' E' x'
      exact h r' .non H' E' x'.sto (show Rp K r' H' .non .none from .non)
    | bk => cases e
    | ct => cases e
    | rt w0 =>
      cases e
      intro r' v H' E' s' _ q'
      exact h r' v H' E' s' q'
    | ex y =>
      cases e
      obtain ⟨C, hC, h⟩ := h
      exact ⟨C, hC, fun r' σ' H' E' x' => h r' H' E' x'.sto⟩
end
end DD
/-! part DZ -/
set_option Elab.async false
set_option linter.all false
set_option maxRecDepth 100000
set_option maxHeartbeats 4000000
namespace DD
open PySem PySem.Spec PyProof.Rows L2 LamX

theorem hu64 {k : Nat} {A : Around} (hr : Room k A) : A.units + 64 < cLine := by have := hr.un; omega
theorem hu65 {k : Nat} {A : Around} (hr : Room k A) : A.units + 65 < cLine := by have := hr.un; omega
/-- a def of the text -/
def DefAt (K : PySem.W.Frag) (mg : Str → Option Value) (x : Str) (st : Stmt) (ps : List Str) : Prop := ∃ f fd, Fun K x x st f fd ∧ mg x = some (.ref f) ∧ Binds K fd ps []
section
variable {P : Program} {w : World} {K : PySem.W.Frag} {mg : Str → Option Value} {base : Heap}
theorem has_of {x : Str} {st : Stmt} {N ps : List Str} {k : Nat} {fb : SM} (D : DefAt K mg x st ps) (S : FnScope N ps (defScope st))
    (hb : ∀ (f : Addr) (cdv : Value) (A : Around) (outer : List Env) (s : Shared) (H : Hp) (E : XK), Room k (A.deeper (envOfC x (defScope st) s.heap.objs.size f cdv)) →
      QSs (cxOf (L2.CX P w) P w K mg base N x (defScope st) f cdv A outer s H E) cf0 (fun cls d _ H => E cls d H) (defBody st) fb) : Has P w K mg base (k + 1) x ps.length (mDef N.length fb) := by
  obtain ⟨f, fd, F, hg, b⟩ := D
  exact has_def F hg S b fun cdv A outer s H E hr => hb f cdv A outer s H E hr
theorem has_fail {x : Str} {st : Stmt} {ps : List Str} {k : Nat} (D : DefAt K mg x st ps) : Has P w K mg base k x ps.length (fun _ => M.fail) := by
  obtain ⟨f, fd, F, hg, b⟩ := D
  refine ⟨f, fd, ps, hg, F.kp, b, ⟨fun vs H Q E h => h.1, fun A outer s H args us vs Q E hr he hb hv hs => ?_⟩⟩
  obtain ⟨_, r, S, ws, o, S', _, _, e, _⟩ := hs
  cases e
end

/-! ### [..] * n -/
def fRep (fs : Ev → M (List Vl)) (g : Ev → M Vl) : Ev → M Vl := fun ev => do
  let ws ← fs ev
  let ds ← M.lift (dats ws)
  if ds.length ≤ 1000 then do
    let y ← g ev
    let k ← M.lift (intOf y)
    if -1000000 ≤ k ∧ k ≤ 1000000 ∧ ds.length * k.toNat ≤ 1000000 then pure (.d (.list (List.replicate k.toNat ds).flatten)) else M.fail
  else M.fail
section
variable {X : Cx} {c : Cf} {W : WX} {e : Expr} {es : List Expr} {b : Expr} {f g : Ev → M Vl} {fs : Ev → M (List Vl)} {pos pos2 : Pos}
theorem qe_rep (ha : QA X c W es fs) (hb : QE X c W b g) : QE X c W (.BinOp (.List es pos2) .Mult b pos) (fRep fs g) := by
  refine pe_weak (pe_op op_repR (pe_lst ha) hb) fun σ H Q h => ?_
  obtain ⟨r, ev, S, x, h⟩ := h
  refine tX.of x h.bind fun vs H1 ⟨r1, S1, ws, e1, s1, t1, q1, h1⟩ => ?_
  obtain ⟨ds, ed, h2⟩ := lift_run h1
  have q2 := dats_ok q1 ed
  have x1 := x.ext e1 s1 t1
  split at h2
  · rename_i hz
    refine ⟨by rw [q2.length]; exact small1 hz, fun p hp => ?_⟩
    have E : Ext false r1 r1 H1 (upd H1 p (.lst vs)) := Ext.new s1.mu hp
    have x2 : Rel X c r1 σ (upd H1 p (.lst vs)) ev S1 := x1.ext' E (s1.new hp)
    have q3 := q2.ext E
    obtain ⟨o, S', eo, ho⟩ := h2
    have h2' : tRun X c W (Rw X.K X.mg) r1 σ (upd H1 p (.lst vs)) S1 _ Q := ⟨o, S', eo, by
      cases o with
      | ok w => exact fun r' v H' e' s' t' q' => ho r' v H' (E.up.trans e') s' t' q'
      | error y =>
        obtain ⟨C, hC, ho⟩ := ho
        exact ⟨C, hC, fun r' H' e' s' t' => ho r' H' (E.up.trans e') s' t'⟩⟩
    refine tX.of x2 h2'.bind fun y H3 ⟨r3, S3, w3, e3, s3, t3, q4, h3⟩ => ?_
    obtain ⟨k, ek, h4⟩ := lift_run h3
    have ek' := intOf_ok q4 ek
    subst ek'
    split at h4
    · rename_i hb
      have hP : H3 p = some (.lst vs) := by
        rcases e3.keep p _ upd_same (s1.no hp).1 with q | ⟨_, ps, q⟩
        · exact q
        · cases q
      refine ⟨p, k, vs, rfl, rfl, .inl hP, by omega, by omega, by rw [q2.length]; exact szl hb.2.2, fun p2 hp2 => ?_⟩
      exact (acc_of h4 t3).new s3 hp2 (.lst (.inl ⟨upd_same, s3.no hp2⟩) (((q3.ext e3).rep k.toNat).ext (Ext.new (lam := false) s3.mu hp2)))
    · exact (fail_run h4).elim
  · exact (fail_run h2).elim

/-! ### written tables of defs, by text keys -/
/-- at x stands a written dict: texts to defs -/
structure Tab (K : PySem.W.Frag) (w : World) (mg : Str → Option Value) (x : Str) (tb : List (Str × Str)) : Prop where
  ex : ∃ d es n, mg x = some (.ref d) ∧ KDict K w d es n ∧ ∀ z, ∃ r, PySem.W.nsIn K d z = some r ∧ match tb.lookup z with
    | some f => ∃ a, r = some (.ref a) ∧ mg f = some (.ref a)
    | none => r = none
def fTab (tb : List (Str × Str)) (f : Ev → M Vl) : Ev → M Vl := fun ev => do
  let y ← f ev
  match y with
  | .d (.str z) => match tb.lookup z with
    | some g => pure (.f g)
    | none => M.fail
  | _ => M.fail
def fInTab (neg : Bool) (tb : List (Str × Str)) (f : Ev → M Vl) : Ev → M Vl := fun ev => do
  let y ← f ev
  match y with
  | .d (.str z) => pure (.d (.bool (if neg then !(tb.lookup z).isSome else (tb.lookup z).isSome)))
  | _ => M.fail
theorem qe_tab {x : Str} {tb : List (Str × Str)} {p : Pos} (T : Tab X.K X.w X.mg x tb) (hg : Gl X x) (hb : QE X c W b f) (hd : (x == ("__debug__" : Str)) = false := by decide) (hs : PlainIx b := by exact fun _ _ => rfl) : QE X c W (.Subscript (.Name x p) b pos) (fTab tb f) := by
  obtain ⟨d, es, n, hm, D, hz⟩ := T.ex
  have hi : IxR X (fun x y H Q => ∃ (z : Str) (u0 : Value) (v0 : V), x = .ref d ∧ y = .str z ∧ PySem.W.nsIn X.K d z = some (some u0) ∧ RelV v0 u0 ∧ Q v0 H) := by
    intro value slice pins s σ H x y v u Q I rx ry h hs
    have hh := op_item_kd D pins s σ H x y v u Q I rx ry h
    obtain ⟨z, u0, v0, rfl, rfl, _⟩ := h
    cases rx
    exact tail_any (kd_type D I) slot_dict_getitem.lookup hh hs
  refine pe_weak (pe_ix hi (pe_glob (v := .ref d) hg hm rfl hd) hb hs) fun σ H Q h => ?_
  obtain ⟨r, ev, S, x', h⟩ := h
  refine tX.of x' h.bind fun v H1 ⟨r1, S1, w, e1, s1, t1, q1, h1⟩ => ?_
  try dsimp only at h1
  split at h1
  · rename_i z
    obtain ⟨r0, h2, h3⟩ := hz z
    cases el : tb.lookup z with
    | none =>
      rw [el] at h1
      exact (fail_run h1).elim
    | some g =>
      rw [el] at h1 h3
      obtain ⟨a, rfl, hg2⟩ := h3
      cases q1
      exact ⟨z, _, .ref a, rfl, rfl, h2, rfl, h1.pure rfl s1 t1 ⟨a, hg2, rfl⟩⟩
  · exact (fail_run h1).elim
theorem inTab_weak {neg : Bool} {x : Str} {tb : List (Str × Str)} {d : Addr} {σ : L2.St} {H : Hp} {Q : VK} (hz : ∀ z, ∃ r, PySem.W.nsIn X.K d z = some r ∧ match tb.lookup z with
    | some f => ∃ a, r = some (.ref a) ∧ X.mg f = some (.ref a)
    | none => r = none) (h : tE X c W (fInTab neg tb f) σ H Q) : tOp (fun x y H Q => ∃ (z : Str) (r : Option Value), x = .str z ∧ y = .ref d ∧ PySem.W.nsIn X.K d z = some r ∧ Q (.bl (if neg then !r.isSome else r.isSome)) H) (tE X c W f) (tC (.ref d)) σ H Q := by
  obtain ⟨r, ev, S, x', h⟩ := h
  refine tX.of x' h.bind fun v H1 ⟨r1, S1, w, e1, s1, t1, q1, h1⟩ => ?_
  try dsimp only at h1
  split at h1
  · rename_i z
    obtain ⟨r0, h2, h3⟩ := hz z
    cases q1
    refine ⟨z, r0, rfl, rfl, h2, ?_⟩
    have e : r0.isSome = (tb.lookup z).isSome := by
      cases el : tb.lookup z with
      | none => rw [el] at h3; subst h3; rfl
      | some g => rw [el] at h3; obtain ⟨a, rfl, _⟩ := h3; rfl
    rw [e]
    exact h1.pure rfl s1 t1 (.bl _)
  · exact (fail_run h1).elim
theorem op_inTab {neg : Bool} {d : Addr} {es : Array DictEntry} {n : Nat} (D : KDict X.K X.w d es n) : OpR X (compareOp (if neg then .NotIn else .In)) (fun x y H Q => ∃ (z : Str) (r : Option Value), x = .str z ∧ y = .ref d ∧ PySem.W.nsIn X.K d z = some r ∧ Q (.bl (if neg then !r.isSome else r.isSome)) H) := by
  cases neg with
  | true => exact op_notIn_kd D
  | false => exact op_in_kd D
theorem qe_inTab (neg : Bool) {x : Str} {tb : List (Str × Str)} {p : Pos} (T : Tab X.K X.w X.mg x tb) (hg : Gl X x) (ha : QE X c W e f) (hd : (x == ("__debug__" : Str)) = false := by decide)
    (hm : behindInMarks (if neg then .NotIn else .In) (.Name x p) = false := by with_unfolding_all rfl) : QE X c W (.Compare e [if neg then .NotIn else .In] [.Name x p] pos) (fInTab neg tb f) := by
  obtain ⟨d, es, n, hmg, D, hz⟩ := T.ex
  exact pe_weak (pe_cmpR (op_inTab D) ha (pe_glob (v := .ref d) hg hmg rfl hd) hm) fun σ H Q h => inTab_weak (x := x) hz h
theorem qt_inTab (neg : Bool) {x : Str} {tb : List (Str × Str)} {p : Pos} (T : Tab X.K X.w X.mg x tb) (hg : Gl X x) (ha : QE X c W e f) (hd : (x == ("__debug__" : Str)) = false := by decide)
    (hm : behindInMarks (if neg then .NotIn else .In) (.Name x p) = false := by with_unfolding_all rfl) : QT X c W (.Compare e [if neg then .NotIn else .In] [.Name x p] pos) (fB (fInTab neg tb f)) := by
  obtain ⟨d, es, n, hmg, D, hz⟩ := T.ex
  exact pt_weak (pt_cmpR (op_inTab D) ha (pe_glob (v := .ref d) hg hmg rfl hd) hm) fun σ H Q h => inTab_weak (x := x) hz (fB_of h)

/-! ### a local name that holds a def -/
/-- the defs that it may hold, with their readings -/
def vlook (vt : List (Str × Nat × (List Vl → M Vl))) (g : Str) : Option (Nat × (List Vl → M Vl)) := vt.lookup g
def fCallV (i : Nat) (vt : List (Str × Nat × (List Vl → M Vl))) (fs : Ev → M (List Vl)) : Ev → M Vl := fun ev => do
  let w ← fVar i ev
  match w with
  | .f g => match vlook vt g with
    | some (n, m) => do
      let ws ← fs ev
      if ws.length = n then m ws else M.fail
    | none => M.fail
  | _ => M.fail
def VtOk (X : Cx) (k : Nat) (vt : List (Str × Nat × (List Vl → M Vl))) : Prop := ∀ g n m, vlook vt g = some (n, m) → HasX X k g n m
theorem vt_nil {k : Nat} : VtOk X k [] := fun g n m h => by cases h
theorem vt_cons {k : Nat} {g0 : Str} {n0 : Nat} {m0 : List Vl → M Vl} {vt : List (Str × Nat × (List Vl → M Vl))} (h : HasX X k g0 n0 m0) (t : VtOk X k vt) : VtOk X k ((g0, n0, m0) :: vt) := fun g n m e => by
  unfold vlook at e
  rw [List.lookup_cons] at e
  split at e
  · rename_i hg
    cases e
    have : g = g0 := by simpa using hg
    subst this
    exact h
  · exact t g n m e
theorem qe_callV (i : Nat) {k : Nat} {x : Str} {p : Pos} {vt : List (Str × Nat × (List Vl → M Vl))} (V : VtOk X k vt) (hr : Room k X.A) (tk : Takes X W) (ha : QA X c W (e :: es) fs) (hN : X.N[i]? = some x := by rfl)
    (hv : Vis X.env.scope x := by first | exact Or.inl rfl | exact Or.inr (Or.inl rfl) | exact Or.inr (Or.inr rfl)) (hdb : (x == ("__debug__" : Str)) = false := by decide) (hcd : (x == ("__classdict__" : Str)) = false := by decide)
    (he : starEach (e :: es) X.env = (false, eval e X.env) :: starEach es X.env := by rfl) (hpl : (backTo pos (starEach es X.env)).any (·.1) = false := by rfl) : QE X c W (.Call (.Name x p) (e :: es) [] pos) (fCallV i vt fs) := by
  refine ⟨fun pins s σ H Q I h => ?_⟩
  obtain ⟨r, ev, S, x', h⟩ := h
  have hb := h.bind (R1 := Rw X.K X.mg)
  unfold fVar at hb
  split at hb
  · rename_i w q
    obtain ⟨v, g1, g2⟩ := x'.ev i w q
    obtain ⟨r1, S1, w1, e1, s1, t1, q1, h3⟩ := hb.pure rfl x'.sto x'.tabs g2
    have x1 := x'.ext e1 s1 t1
    try dsimp only at h3
    split at h3
    · rename_i g
      split at h3
      · rename_i n m el
        obtain ⟨f, fd, ps, k1, k2, k3, k4⟩ := V g n m el
        obtain ⟨a, ha1, hv1⟩ := q1
        rw [k1] at ha1
        cases ha1
        subst hv1
        refine wpAny_Call_Name_kw (thn ((pe_var (pos := p) hN hv hdb hcd).run pins s σ H (fun v H1 => v = .ref f ∧ H1 = H) I ⟨.ref f, g1, rfl, rfl⟩) fun u s2 ⟨v, H1, I1, r1', q1'⟩ => ?_)
        obtain ⟨rfl, rfl⟩ := q1'
        cases r1'
        have hA := tX.of (R := RwAll X.K X.mg) x1 h3.bind fun vs H1 q => q
        refine PySem.W.callWith_K (h₀ := X.base) I.ok.mod.kin k2 (thn (ha.run pos pins s2 σ _ _ I1 hA) fun us s3 ⟨vs, H2, I2, r2, q2⟩ => ⟨I2.kIn, ?_⟩) he hpl
        obtain ⟨r3, S3, ws, e3, s3', t3, q3, h4⟩ := q2
        split at h4
        · rename_i hn
          exact run_fnS k4 hr k3 (passAt tk σ) I2 r2 (sp_of h4 s3' t3 q3 hn)
        · exact (fail_run h4).elim
      · exact (fail_run h3).elim
    · exact (fail_run h3).elim
  · exact (fail_run hb).elim
/-- a def's name as a value -/
def fFn (x : Str) : Ev → M Vl := fun _ => pure (.f x)
theorem qe_fn {x : Str} (D : ∃ a, X.mg x = some (.ref a)) (hg : Gl X x) (hd : (x == ("__debug__" : Str)) = false := by decide) : QE X c W (.Name x pos) (fFn x) := by
  obtain ⟨a, ha⟩ := D
  refine pe_weak (pe_glob (v := .ref a) hg ha rfl hd) fun σ H Q ⟨r, ev, S, x', h⟩ => h.pure rfl x'.sto x'.tabs ⟨a, ha, rfl⟩
end
end DD
/-! part DQ -/
set_option Elab.async false
set_option linter.all false
set_option maxRecDepth 100000
set_option maxHeartbeats 4000000
namespace DD
open PySem PySem.Spec PyProof.Rows L2 LamX

/-! ### sum -/
theorem preSum_ints (ns : List Int) : ∀ n, n ≤ ns.length → preSum (fun i => ns.getD i 0) n = (ns.take n).sum
  | 0, _ => by simp [preSum]
  | n + 1, h => by
    have hn : n < ns.length := by omega
    rw [preSum, preSum_ints ns n (by omega), List.take_succ, List.sum_append]
    simp [List.getD, List.getElem?_eq_getElem hn]
section
variable {X : Cx} {K : PySem.W.Frag} {r : Lv} {H : Hp} {S : Sto}
def rSumT (K : PySem.W.Frag) : List V → Hp → VK → Prop := fun vs H Q => ∃ (a : Addr) (ns : List Int), vs = [V.ref a] ∧ SqT K H a (ns.map V.int) ∧ Q (.int ns.sum) H
theorem cr_sumT (hc : X.calm = true) : CallR X (.builtin "sum") (rSumT X.K) := by
  intro pins s σ H vs us Q I r h
  obtain ⟨a, ns, rfl, hs, q⟩ := h
  obtain ⟨its, rv, hl, _⟩ := I.tuple hs
  rw [Vals.ref1 r]
  have hi := rv.ints
  have hlt : a < s.heap.objs.size := by obtain ⟨_, e, _⟩ := id hl; exact Heap.lt_size e
  have hlen := rv.length
  refine call_sum_walkG (wpAny_pyIter_tuple (show s.heap.IsTuple a its.toArray from hl) ?_)
  have hT2 : (s.heap.push { cls := .type "tuple_iterator", data := .fields #[.ref a, .int 0 0] }).IsTuple a its.toArray := by
    obtain ⟨o, e, c⟩ := id hl
    exact ⟨o, Heap.get?_push_of_some _ e, c⟩
  refine ⟨_, _, _, _, _, _, fun i => ns.getD i 0, rfl, Walks.tuple (A := X.A.in1) (I.ok.hd hc) s.heap.objs.size a (Nat.ne_of_lt hlt) its.toArray, ⟨⟨_, Heap.get?_push_size _ rfl, rfl, rfl⟩, hT2⟩, fun b hb => ?_, fun i v hv => ?_, fun h' tk t' hk => ?_⟩
  · rw [Heap.size_push]
    rcases List.mem_cons.mp hb with e | hb
    · rw [e]; exact Nat.lt_succ_self _
    · have e : b = a := by simpa using hb
      rw [e]; exact Nat.lt_succ_of_lt hlt
  · have hv' : its[i]? = some v := by simpa using hv
    have : ∀ {us : List Value} {ns : List Int} {i : Nat} {v : Value}, Vals (ns.map V.int) us → us[i]? = some v → ∃ t, v = .int (ns.getD i 0) t := by
      intro us ns
      induction ns generalizing us with
      | nil => intro i v h e; cases h; simp at e
      | cons n ns ih =>
        intro i v h e
        cases h with
        | cons a b =>
          cases i with
          | zero => simp at e; subst e; obtain ⟨t, rfl⟩ := a; exact ⟨t, rfl⟩
          | succ i => exact ih b (by simpa using e)
    exact this rv hv'
  · refine ⟨.int _, H, I.kept fun b o eo => hk b o (fun hmem => ?_) (Heap.get?_push_of_some _ eo), ⟨_, rfl⟩, ?_⟩
    · rcases List.mem_cons.mp hmem with e1 | hmem
      · exact absurd (e1 ▸ Heap.lt_size eo) (Nat.lt_irrefl _)
      · cases hmem
    · have e : its.toArray.size = ns.length := by rw [List.size_toArray, ← hlen, List.length_map]
      rw [e, preSum_ints ns _ (Nat.le_refl _), List.take_length]
      exact q
theorem q_sum (hc : X.calm = true) : CallQ X (.builtin "sum") sumP := by
  refine ⟨_, (cr_sum hc).or (cr_sumT hc), fun r H S vs ds z Q s qs e A => ?_⟩
  unfold sumP at e
  split at e
  · obtain ⟨v, rfl, q⟩ := qs.one
    obtain ⟨a, us, rfl, h1, h2⟩ := q.list
    obtain ⟨ns, eb, rfl⟩ := Option.map_eq_some_iff.mp e
    refine .inl ⟨a, ns, rfl, ?_, A.here s (.int _)⟩
    rw [← (intsD_ok h2 eb).1]; exact h1
  · obtain ⟨v, rfl, q⟩ := qs.one
    obtain ⟨a, us, rfl, h1, h2⟩ := q.tup
    obtain ⟨ns, eb, rfl⟩ := Option.map_eq_some_iff.mp e
    refine .inr ⟨a, ns, rfl, ?_, A.here s (.int _)⟩
    rw [← (intsD_ok h2 eb).1]; exact h1
  · cases e
end

/-! ### list(x) that will be changed -/
def fMutL (f : Ev → M (List Vl)) : Ev → M Vl := fun ev => do
  let ws ← f ev
  let ds ← rdAll ws
  match ds with
  | [.list xs] => M.newL xs
  | [.tuple xs] => M.newL xs
  | _ => M.fail
section
variable {X : Cx} {c : Cf} {W : WX} {e : Expr} {es : List Expr} {fs : Ev → M (List Vl)} {pos : Pos}
theorem newL_run {r : Lv} {σ : L2.St} {H : Hp} {S : Sto} {xs : List PyData} {vs : List V} {Q : VK} {l : Addr} (h : tRun X c W (Rw X.K X.mg) r σ H S (M.newL xs) Q) (s : StoRel (wg X) X.K r H S) (t : Tabs c.T H) (hl : H l = none) (q : RpAll X.K r H vs xs) : Q (.ref l) (upd H l (.lst vs)) := by
  obtain ⟨o, S', e', h3⟩ := h
  cases e'
  have E : Ext false r ⟨r.st ++ [l], r.hid⟩ H (upd H l (.lst vs)) := Ext.newL s.mu hl
  exact h3 ⟨r.st ++ [l], r.hid⟩ (.ref l) _ E.up (s.newL hl q) (tabs_ext E t) ⟨l, by show (r.st ++ [l])[S.length]? = some l; rw [← s.len, List.getElem?_append_right (Nat.le_refl _)]; simp, rfl⟩
theorem qe_mutL {p : Pos} (hg : Gl X "list") (hm : X.mg "list" = none) (ha : QA X c W [e] fs) (he : starEach [e] X.env = (false, eval e X.env) :: starEach [] X.env := by rfl) (hpl : (backTo pos (starEach [] X.env)).any (·.1) = false := by rfl) :
    QE X c W (.Call (.Name "list" p) [e] [] pos) (fMutL fs) := pe_weak (pe_callTy call_list_of hg hm PyProof.Rows.boot_list ha (by decide) (by decide) he hpl) fun σ H Q h => by
  obtain ⟨r, ev, S, x, h⟩ := h
  refine tX.of x h.bind fun vs H1 ⟨r1, S1, ws, e1, s1, t1, q1, h1⟩ => ?_
  obtain ⟨ds, qd, h2⟩ := rdAll_run h1 s1 q1
  try dsimp only at h2
  split at h2
  · obtain ⟨v, rfl, q⟩ := qd.one
    obtain ⟨a, us, rfl, g1, g2⟩ := q.list
    exact ⟨a, us, rfl, .inl g1, fun l hl => newL_run h2 s1 t1 hl g2⟩
  · obtain ⟨v, rfl, q⟩ := qd.one
    obtain ⟨a, us, rfl, g1, g2⟩ := q.tup
    exact ⟨a, us, rfl, .inr g1, fun l hl => newL_run h2 s1 t1 hl g2⟩
  · exact (fail_run h2).elim
end

/-! ### zip of two lists or two tuples, walked -/
def zipD : List PyData → List PyData → List PyData
  | a :: as, b :: bs => .tuple [a, b] :: zipD as bs
  | _, _ => []
theorem zipD_get : ∀ {as bs : List PyData} {i : Nat} {d : PyData}, (zipD as bs)[i]? = some d → ∃ a b, as[i]? = some a ∧ bs[i]? = some b ∧ d = .tuple [a, b]
  | a :: as, b :: bs, 0, d, h => by simp [zipD] at h; exact ⟨a, b, rfl, rfl, h.symm⟩
  | a :: as, b :: bs, i + 1, d, h => by
    obtain ⟨x, y, h1, h2, h3⟩ := zipD_get (as := as) (bs := bs) (i := i) (d := d) (by simpa [zipD] using h)
    exact ⟨x, y, by simpa using h1, by simpa using h2, h3⟩
  | [], _, _, _, h => by simp [zipD] at h
  | _ :: _, [], _, _, h => by simp [zipD] at h
theorem zipD_len : ∀ {as bs : List PyData}, (zipD as bs).length = min as.length bs.length
  | a :: as, b :: bs => by simp [zipD, zipD_len (as := as) (bs := bs)]
  | [], _ => by simp [zipD]
  | _ :: _, [] => by simp [zipD]
def zipP : List PyData → Option (List PyData)
  | [.list as, .list bs] => some (zipD as bs)
  | [.tuple as, .tuple bs] => some (zipD as bs)
  | _ => none
def fZip (f : Ev → M (List Vl)) : Ev → M (List PyData) := fun ev => do
  let ws ← f ev
  let a ← M.lift (dats ws)
  M.lift (zipP a)
end DD
/-! part DR -/
set_option Elab.async false
set_option linter.all false
set_option maxRecDepth 100000
set_option maxHeartbeats 4000000
namespace DD
open PySem PySem.Spec PyProof.Rows L2 LamX RZ

/-! ### zip, walked -/
theorem yields_zip {a b : Addr} {ds es : List PyData} {vs us : List V} {K : PySem.W.Frag} {wd : Wg} : Yields wd K (Itz K a b) (zipD ds es) (fun r H => (SqF K r H a vs ∧ RpAll K r H vs ds) ∧ (SqF K r H b us ∧ RpAll K r H us es)) where
  go := fun r H i ⟨⟨h1, h2⟩, h3, h4⟩ hi => by
    rw [zipD_len] at hi
    exact ⟨vs, us, vs[i]'(by rw [h2.length]; omega), us[i]'(by rw [h4.length]; omega), h1.sq, h3.sq, List.getElem?_eq_getElem _, List.getElem?_eq_getElem _⟩
  yld := fun r H S i d x H' ⟨⟨h1, h2⟩, h3, h4⟩ s hd y => by
    obtain ⟨T, x', y', rfl, hT, rfl, f1, f2⟩ := y
    obtain ⟨p, q, hp, hq, rfl⟩ := zipD_get hd
    obtain ⟨v, hv, qv⟩ := h2.get hp
    obtain ⟨u, hu, qu⟩ := h4.get hq
    have g1 := f1 vs h1.sq
    have g2 := f2 us h3.sq
    rw [hv] at g1
    rw [hu] at g2
    cases g1; cases g2
    have E := Ext.new (lam := false) (o := HO.tup [x', y']) s.mu hT
    exact ⟨E, s.new hT, .tup (.inl (.inl upd_same)) (.cons (qv.ext E) (.cons (qu.ext E) .nil))⟩
  stop := fun r H ⟨⟨h1, h2⟩, h3, h4⟩ => ⟨vs, us, h1.sq, h3.sq, by rw [zipD_len, h2.length, h4.length]; omega⟩
  ext := fun lam r r' H H' ⟨⟨h1, h2⟩, h3, h4⟩ e => ⟨⟨e.sqf h1, h2.ext e⟩, e.sqf h3, h4.ext e⟩
  hide := fun r H S D ⟨⟨h1, h2⟩, h3, h4⟩ s hD => ⟨⟨h1.hide hD, h2.hide hD⟩, h3.hide hD, h4.hide hD⟩
  putH := fun r H S D xs ⟨⟨h1, h2⟩, h3, h4⟩ s hD => ⟨⟨h1.putH s hD, Ext.putH s.mu hD h2⟩, h3.putH s hD, Ext.putH s.mu hD h4⟩
theorem yields_zipT {a b : Addr} {ds es : List PyData} {vs us : List V} {K : PySem.W.Frag} {wd : Wg} : Yields wd K (ItzT K a b) (zipD ds es) (fun r H => (SqT K H a vs ∧ RpAll K r H vs ds) ∧ (SqT K H b us ∧ RpAll K r H us es)) where
  go := fun r H i ⟨⟨h1, h2⟩, h3, h4⟩ hi => by
    rw [zipD_len] at hi
    exact ⟨vs, us, vs[i]'(by rw [h2.length]; omega), us[i]'(by rw [h4.length]; omega), h1, h3, List.getElem?_eq_getElem _, List.getElem?_eq_getElem _⟩
  yld := fun r H S i d x H' ⟨⟨h1, h2⟩, h3, h4⟩ s hd y => by
    obtain ⟨T, x', y', rfl, hT, rfl, f1, f2⟩ := y
    obtain ⟨p, q, hp, hq, rfl⟩ := zipD_get hd
    obtain ⟨v, hv, qv⟩ := h2.get hp
    obtain ⟨u, hu, qu⟩ := h4.get hq
    have g1 := f1 vs h1
    have g2 := f2 us h3
    rw [hv] at g1
    rw [hu] at g2
    cases g1; cases g2
    have E := Ext.new (lam := false) (o := HO.tup [x', y']) s.mu hT
    exact ⟨E, s.new hT, .tup (.inl (.inl upd_same)) (.cons (qv.ext E) (.cons (qu.ext E) .nil))⟩
  stop := fun r H ⟨⟨h1, h2⟩, h3, h4⟩ => ⟨vs, us, h1, h3, by rw [zipD_len, h2.length, h4.length]; omega⟩
  ext := fun lam r r' H H' ⟨⟨h1, h2⟩, h3, h4⟩ e => ⟨⟨e.sqt h1, h2.ext e⟩, e.sqt h3, h4.ext e⟩
  hide := fun r H S D ⟨⟨h1, h2⟩, h3, h4⟩ s hD => ⟨⟨sqt_ne h1 (.inr hD), h2.hide hD⟩, sqt_ne h3 (.inr hD), h4.hide hD⟩
  putH := fun r H S D xs ⟨⟨h1, h2⟩, h3, h4⟩ s hD => ⟨⟨sqt_ne h1 (.inl (s.mu D (.inr hD))), Ext.putH s.mu hD h2⟩, sqt_ne h3 (.inl (s.mu D (.inr hD))), Ext.putH s.mu hD h4⟩
section
variable {X : Cx} {c : Cf} {W : WX} {a b : Expr} {fs : Ev → M (List Vl)}
theorem qi_zip {p pos tpos : Pos} {elts : List Expr} {kk : Nat} (hg : Gl X "zip") (hm : X.mg "zip" = none) (ha : QA X c W [a, b] fs) (hs : starEach [a, b] X.env = (false, eval a X.env) :: starEach [b] X.env := by rfl) (hpl : (backTo pos (starEach [b] X.env)).any (·.1) = false := by rfl) :
    QI X c W (.Tuple elts kk tpos) (.Call (.Name "zip" p) [a, b] [] pos) (fZip fs) := pi_weak (pi_zipA hg hm ha hs hpl) fun σ H R h => by
  obtain ⟨r, ev, S, x, h⟩ := h
  refine tX.of x h.bind fun vs H1 ⟨r1, S1, ws, e1, s1, t1, q1, h1⟩ => ?_
  obtain ⟨ds, ed, h2⟩ := lift_run h1
  have q2 := dats_ok q1 ed
  obtain ⟨z, ez, h3⟩ := tX_last (b := Itr 0 0) h2
  unfold zipP at ez
  split at ez
  · cases ez
    cases q2 with
    | cons q t =>
      cases t with
      | cons q' t =>
        cases t
        cases q with
        | lst g1 g2 =>
          cases q' with
          | lst g3 g4 => exact ⟨_, _, _, _, rfl, .inl ⟨g1.sq, g3.sq, h3.pure rfl s1 t1 ⟨_, yields_zip, ⟨g1, g2⟩, g3, g4⟩⟩⟩
  · cases ez
    cases q2 with
    | cons q t =>
      cases t with
      | cons q' t =>
        cases t
        cases q with
        | tup g1 g2 =>
          cases q' with
          | tup g3 g4 => exact ⟨_, _, _, _, rfl, .inr ⟨g1, g3, h3.pure rfl s1 t1 ⟨_, yields_zipT, ⟨g1, g2⟩, g3, g4⟩⟩⟩
  · cases ez
end
end DD
/-! part DN -/
set_option Elab.async false
set_option linter.all false
set_option maxRecDepth 100000
set_option maxHeartbeats 4000000
namespace DD
open PySem PySem.Spec PyProof.Rows L2 LamX

/-! ### list comprehensions of several clauses: the turns of the clause at a depth -/
theorem compTurnN_more (elt : Expr) (gens : List Comprehension) (scope : Scope) (pos : Pos) (depth : Nat) (t0 i0 t1 i1 : Expr) (ifs0 ifs1 : List Expr) (it acc : Value) (env : Env)
    (h0 : gens[depth]? = some ⟨t0, i0, ifs0, 0⟩) (h1 : gens[depth + 1]? = some ⟨t1, i1, ifs1, 0⟩) :
    compTurn (.ListComp elt gens scope pos) depth it acc env = (do
      standAt i0.pos
      match ← pyNext it with
      | none => pure (.done .next)
      | some v =>
        letOwnedTupleGo t0 it v
        assign t0 env v
        let mut ok := true
        for c in ifs0 do
          if ok then ok ← isTrue c env (eval c env)
        if ok then
          let x ← eval i1 env
          standAt i1.pos
          let x ← foldedSetIterable i1 env x
          let _ ← runOwn (.compStart (.ListComp elt gens scope pos) (depth + 1) (← holding [x] (pyIter x)) acc env) env
        again (.compLoop (.ListComp elt gens scope pos) depth it acc env)) := by
  unfold compTurn
  simp only [h0, h1]
  rfl
theorem compTurnN_last (elt : Expr) (gens : List Comprehension) (scope : Scope) (pos : Pos) (depth : Nat) (t0 i0 : Expr) (ifs0 : List Expr) (it acc : Value) (env : Env)
    (h0 : gens[depth]? = some ⟨t0, i0, ifs0, 0⟩) (h1 : gens[depth + 1]? = none) :
    compTurn (.ListComp elt gens scope pos) depth it acc env = (do
      standAt i0.pos
      match ← pyNext it with
      | none => pure (.done .next)
      | some v =>
        letOwnedTupleGo t0 it v
        assign t0 env v
        let mut ok := true
        for c in ifs0 do
          if ok then ok ← isTrue c env (eval c env)
        if ok then
          (do let _ ← call (.builtin "list.append") [acc, ← eval elt env])
        again (.compLoop (.ListComp elt gens scope pos) depth it acc env)) := by
  unfold compTurn
  simp only [h0, h1]
  rfl
/-- what a turn does behind its tests: the item, or the next clause's loop -/
def EmitW (P : Program) (w : World) (A : Around) (elt : Expr) (gens : List Comprehension) (scope : Scope) (pos : Pos) (depth : Nat) (acc : Value) (env : Env) (R : Shared → Prop) (s : Shared) : Prop :=
  match gens[depth + 1]? with
  | none => wpAny (model P w) A (eval elt env) (fun x s4 => wpAny (model P w) A (call (.builtin "list.append") [acc, x]) (fun _ s5 => R s5) (fun _ _ => False) s4) (fun _ _ => False) s
  | some g => g.is_async = 0 ∧ (∀ x, foldedSetIterable g.iter env x = pure x) ∧ wpAny (model P w) A (eval g.iter env) (fun x s4 => wpAny (model P w) A (pyIter x) (fun it1 s5 =>
      codeAny (model P w) A (.compStart (.ListComp elt gens scope pos) (depth + 1) it1 acc env) (fun r s' => match r with
        | .ok _ => R s'
        | .error _ => False) s5) (fun _ _ => False) s4) (fun _ _ => False) s
section
variable {P : Program} {w : World} {A : Around} {R : Result → Shared → Prop} {s : Shared} {elt : Expr} {gens : List Comprehension} {scope : Scope} {pos : Pos} {depth : Nat} {t0 i0 : Expr} {ifs0 : List Expr} {it acc : Value} {env : Env}
theorem compLoopN (h0 : gens[depth]? = some ⟨t0, i0, ifs0, 0⟩) (ha : ∀ g, gens[depth + 1]? = some g → g.is_async = 0) (I : Nat → Shared → Prop)
    (turn : ∀ n s, I n s → wpAny (model P w) A (pyNext it) (fun r s1 => match r with
      | none => R (.ok .next) s1
      | some v => wpAny (model P w) A (letOwnedTupleGo t0 it v) (fun _ s1' => wpAny (model P w) A (assign t0 env v) (fun _ s2 =>
          wpAny (model P w) A (forIn ifs0 true fun c r => if r = true then do let ok ← isTrue c env (eval c env); pure (ForInStep.yield ok) else pure (ForInStep.yield r)) (fun ok s3 =>
            if ok = true then EmitW P w A elt gens scope pos depth acc env (fun s => ∃ m, m < n ∧ I m s) s3
            else ∃ m, m < n ∧ I m s3) (fun _ _ => False) s2) (fun _ _ => False) s1') (fun _ _ => False) s1) (fun _ _ => False) s)
    (n : Nat) (h : I n s) :
    codeAny (model P w) A (.compLoop (.ListComp elt gens scope pos) depth it acc env) R s := by
  refine codeAny_loop rfl I (fun n s hI => ?_) n h
  show wpAny _ A ((compTurn (.ListComp elt gens scope pos) depth it acc env).onRaise (fun x => do noteFrame x env; theTreesLotGoes x)) _ _ s
  refine wpAny_noted ?_
  unfold EmitW at turn
  cases h1 : gens[depth + 1]? with
  | none =>
    rw [h1] at turn
    rw [compTurnN_last elt gens scope pos depth t0 i0 ifs0 it acc env h0 h1]
    refine wpAny_bind (wpAny_standAt (wpAny_bind (wpAny_mono (turn n s hI) (fun r s1 g1 => ?_) fun _ _ h' => h'.elim)))
    cases r with
    | none => exact wpAny_pure g1
    | some v =>
      refine wpAny_bind (wpAny_mono g1 (fun _ s1' g1' => ?_) fun _ _ h' => h'.elim)
      refine wpAny_bind (wpAny_mono g1' (fun _ s2 g2 => wpAny_bind (wpAny_mono g2 (fun ok s3 g3 => ?_) fun _ _ h' => h'.elim)) fun _ _ h' => h'.elim)
      cases ok with
      | false => exact wpAny_pure ⟨rfl, g3⟩
      | true =>
        exact wpAny_bind (wpAny_bind (wpAny_mono g3 (fun x s4 h₄ => wpAny_bind (wpAny_mono h₄ (fun _ s5 h₅ => wpAny_pure (wpAny_pure ⟨rfl, h₅⟩)) fun _ _ h' => h'.elim)) fun _ _ h' => h'.elim))
  | some g =>
    obtain ⟨t1, i1, ifs1, as⟩ := g
    rw [h1] at turn
    have as0 : as = 0 := ha _ h1
    subst as0
    · rw [compTurnN_more elt gens scope pos depth t0 i0 t1 i1 ifs0 ifs1 it acc env h0 h1]
      refine wpAny_bind (wpAny_standAt (wpAny_bind (wpAny_mono (turn n s hI) (fun r s1 g1 => ?_) fun _ _ h' => h'.elim)))
      cases r with
      | none => exact wpAny_pure g1
      | some v =>
        refine wpAny_bind (wpAny_mono g1 (fun _ s1' g1' => ?_) fun _ _ h' => h'.elim)
        refine wpAny_bind (wpAny_mono g1' (fun _ s2 g2 => wpAny_bind (wpAny_mono g2 (fun ok s3 g3 => ?_) fun _ _ h' => h'.elim)) fun _ _ h' => h'.elim)
        cases ok with
        | false => exact wpAny_pure ⟨rfl, g3⟩
        | true =>
          obtain ⟨_, hs, g3⟩ := g3
          refine wpAny_bind (wpAny_mono g3 (fun x s4 g4 => ?_) fun _ _ h' => h'.elim)
          refine wpAny_bind (wpAny_standAt (wpAny_bind (wpAny_of_eq (hs x) (wpAny_bind (wpAny_holding (wpAny_mono g4 (fun it1 s5 g5 => ?_) fun _ _ h' => h'.elim))))))
          refine wpAny_bind (wpAny_runOwn ?_)
          rw [Around.mark_none]
          refine codeAny_mono g5 fun r s' hr => ?_
          cases r with
          | ok f =>
            first
              | exact wpAny_pure ⟨rfl, hr⟩
              | exact wpAny_bind (wpAny_pure (wpAny_pure ⟨rfl, hr⟩))
          | error e => exact hr.elim
theorem compStartN_ok (h0 : gens[depth]? = some ⟨t0, i0, ifs0, 0⟩) (hl : codeAny (model P w) A (.compLoop (.ListComp elt gens scope pos) depth it acc env) R s)
    (h : wpAny (model P w) A (pyIter it) (fun it' s' => codeAny (model P w) A (.compLoop (.ListComp elt gens scope pos) depth it' acc env) R s')
      (notedBy (model P w) A env fun x s' => R (.error x) s') s) :
    codeAny (model P w) A (.compStart (.ListComp elt gens scope pos) depth it acc env) R s := by
  refine codeAny_of_tree ?_
  show wpAny _ _ ((compStart (.ListComp elt gens scope pos) depth it acc env).onRaise (fun x => do noteFrame x env; standAt theWindowsPlace)) _ _ s
  refine wpAny_notedAt ?_
  unfold compStart
  have e0 : (clausesOf (.ListComp elt gens scope pos))[depth]? = some ⟨t0, i0, ifs0, 0⟩ := h0
  simp only [e0]
  show wpAny _ _ (ask >>= _) _ _ s
  refine wpAny_bind (wpAny_askSetting (wpAny_ite ?_))
  split
  · first
      | exact wpAny_bind (wpAny_pure (wpAny_pure (And.intro rfl hl)))
      | exact wpAny_pure (And.intro rfl hl)
  · first
      | exact wpAny_bind (wpAny_rule (wpAny_bind (wpAny_standAt (wpAny_bind (wpAny_mono h (fun it' s' h' => wpAny_pure (And.intro rfl h')) fun _ _ x => x)))))
      | (refine wpAny_bind (wpAny_rule ?_); show wpAny _ _ (standAt i0.pos >>= _) _ _ s; exact wpAny_bind (wpAny_standAt (wpAny_bind (wpAny_mono h (fun it' s' h' => wpAny_pure (And.intro rfl h')) fun _ _ x => x))))
end
/-! ### the judgement of what a turn does behind its tests -/
abbrev TB := L2.St → Hp → (Hp → Prop) → Prop
/-- slots that know what others know -/
def SubS (a b : L2.St) : Prop := a.length = b.length ∧ ∀ (j : Nat) v, a[j]? = some (some v) → b[j]? = some (some v)
structure PB (X : Cx) (elt : Expr) (gens : List Comprehension) (scope : Scope) (pos : Pos) (depth : Nat) (D : Addr) (is : List Nat) (b : TB) : Prop where
  run : ∀ (pins : List (Addr × Obj)) (s : Shared) (σ : L2.St) (H : Hp) (N : Hp → Prop), Inv X pins σ H s → b σ H N →
    EmitW X.prog X.w X.A elt gens scope pos depth (.ref D) X.env (fun s' => ∃ σ' H', Inv X pins σ' H' s' ∧ SubS (L2.wipe σ is) σ' ∧ N H') s
def bLast (te : TE) (D : Addr) : TB := fun σ H N => te σ H fun y H4 => ∃ acc, H4 D = some (.lst acc) ∧ acc.length < sizeLine ∧ N (upd H4 D (.lst (acc ++ [y])))
def bMore (wi : TI) (g : TG) (tt : TT) (b : TB) (is : List Nat) : TB := fun σ H N => wi σ H fun J H4 => ∃ W : Nat → Nat → Hp → Prop, (∃ m, W 0 m H4) ∧ ∀ j k H, W j k H →
  (J.stop j H ∧ N H) ∨ (J.go j H ∧ ∃ Nx : Hp → Prop, (∀ H', Nx H' → ∃ k', k' < k ∧ W (j + 1) k' H') ∧ ∀ x H', J.yld j H x H' → g x (L2.wipe σ is) H' fun σ3 H5 => L2.wipe σ3 is = L2.wipe σ is ∧ tt σ3 H5 fun b1 H6 =>
    if b1 = true then b σ3 H6 Nx else Nx H6)
section
variable {X : Cx} {elt : Expr} {gens : List Comprehension} {scope : Scope} {pos : Pos} {depth : Nat} {D : Addr}
theorem wipe_sub (σ : L2.St) (is : List Nat) : SubS (L2.wipe σ is) σ := ⟨wipe_length _ _, fun j v e => (wipe_some e).1⟩
theorem pb_last {te : TE} (hx : X.xe = fun _ _ => False) (he : PE X elt te) (h1 : gens[depth + 1]? = none) (is : List Nat) : PB X elt gens scope pos depth D is (bLast te D) := by
  refine ⟨fun pins s σ H N I h => ?_⟩
  unfold EmitW
  rw [h1]
  have z := he.run pins s σ H _ I h
  rw [hx] at z
  exact thnF z fun z s2 ⟨yv, H2, I2, r2, acc, hD2, hz2, nx⟩ => app_ok I2 hD2 hz2 r2 fun s3 I3 => ⟨σ, _, I3, wipe_sub σ is, nx⟩
theorem SubS.trans {a b c : L2.St} (h : SubS a b) (k : SubS b c) : SubS a c := ⟨h.1.trans k.1, fun j v e => k.2 j v (h.2 j v e)⟩
theorem wipe_subs {σ : L2.St} {is js : List Nat} (h : ∀ i ∈ js, i ∈ is) : SubS (L2.wipe σ is) (L2.wipe σ js) := ⟨by rw [wipe_length, wipe_length], fun j v e => by
  obtain ⟨e1, e2⟩ := wipe_some e
  rw [wipe_out fun z => e2 (h j z)]
  exact e1⟩
/-- a clause's loop: τ are the slots at each turn's start, G what holds at its end -/
theorem loopN {tg iter : Expr} {ifs : List Expr} {g : TG} {tt : TT} {b : TB} {is js : List Nat} {pins : List (Addr × Obj)} {s : Shared} {τ : L2.St} {H : Hp} {fp : List Addr} {it : Addr} {tn : Nat → Heap → Prop} {J : It} {W : Nat → Nat → Hp → Prop} {m0 : Nat} {G : Hp → Prop} {R : Result → Shared → Prop}
    (hx : X.xe = fun _ _ => False) (hc : X.calm = true) (h1 : gens[depth]? = some ⟨tg, iter, ifs, 0⟩) (h2 : ∀ g, gens[depth + 1]? = some g → g.is_async = 0) (hj : ∀ i ∈ js, i ∈ is)
    (hg : PG X tg g) (ht : PTs X ifs tt) (hb : PB X elt gens scope pos depth D js b) (T : Turn X.prog X.w X.K tg J fp it tn) (I : Inv X pins τ H s) (st : tn 0 s.heap) (nf : ∀ b ∈ fp, H b = none) (w0 : W 0 m0 H)
    (stat : ∀ {σ' : L2.St} {H' : Hp} {s' : Shared}, Inv X pins σ' H' s' → (∀ b ∈ fp, H' b = none) → ∀ b ∈ fp, FpOk X pins H' b)
    (turn : ∀ j k H, W j k H → (J.stop j H ∧ G H) ∨ (J.go j H ∧ ∃ Nx : Hp → Prop, (∀ H', Nx H' → ∃ k', k' < k ∧ W (j + 1) k' H') ∧ ∀ x H', J.yld j H x H' → g x τ H' fun σ3 H5 => L2.wipe σ3 is = τ ∧ tt σ3 H5 fun b1 H6 => if b1 = true then b σ3 H6 Nx else Nx H6))
    (hR : ∀ H' s', Inv X pins τ H' s' → G H' → R (.ok .next) s') : codeAny (model X.prog X.w) X.A (.compLoop (.ListComp elt gens scope pos) depth (.ref it) (.ref D) X.env) R s := by
  refine compLoopN h1 h2 (fun k s' => ∃ j H', Inv X pins τ H' s' ∧ tn j s'.heap ∧ (∀ b ∈ fp, H' b = none) ∧ W j k H') ?_ m0 ⟨0, H, I, st, nf, w0⟩
  rintro k sa ⟨j, Ha, Ia, sta, na, wa⟩
  rcases turn j k Ha wa with ⟨stop, nx⟩ | ⟨go, Nx, hNx, step⟩
  · exact thnF (T.done X rfl rfl rfl hc j _ sa τ Ha (fun _ _ => False) Ia (stat Ia na) sta stop) fun r sb ⟨hr, Ib⟩ => by subst hr; exact hR _ _ Ib nx
  · refine thnF (T.item X rfl rfl rfl hc j _ sa τ Ha (fun _ _ => False) Ia (stat Ia na) sta go) fun r sb ⟨u, hr, hu⟩ => ?_
    subst hr
    refine thnF hu fun _ sc ⟨x, Hc, Ic, rc, yc, stc, nc⟩ => ?_
    have zg := hg.run _ sc τ Hc x u _ (Ic.pinned (stat Ic nc) (T.obj _ _ stc)) rc (step x Hc yc)
    rw [hx] at zg
    refine thnF zg fun _ sd ⟨σd, Hd, Id, hwd, qd⟩ => ?_
    have zt := ht.run _ sd σd Hd _ Id qd
    rw [hx] at zt
    refine thnF zt fun ok se ⟨He, Ie, qe⟩ => ?_
    have fin : ∀ {σ9 : L2.St} {s' : Shared} {H' : Hp}, Inv X (pins ++ pinsAt fp sc.heap) σ9 H' s' → SubS (L2.wipe σd js) σ9 → Nx H' → ∃ m, m < k ∧ ∃ j H', Inv X pins τ H' s' ∧ tn j s'.heap ∧ (∀ b ∈ fp, H' b = none) ∧ W j m H' := fun {σ9 s' H'} I' sb nx => by
      obtain ⟨m', hm, w'⟩ := hNx H' nx
      have sb' : SubS τ σ9 := by rw [← hwd]; exact (wipe_subs hj).trans sb
      have keepF : ∀ b ∈ fp, ∀ o, sc.heap.get? b = some o → s'.heap.get? b = some o ∧ H' b = none := fun b hb o e => by
        have z := I'.pin (b, o) (List.mem_append_right _ (List.mem_append_right _ (mem_pinsAt hb e)))
        exact ⟨z.1, z.2.1⟩
      refine ⟨m', hm, j + 1, H', I'.unpinned.weak sb'.1 sb'.2, T.keep _ _ _ stc fun b hb o e => (keepF b hb o e).1, fun b hb => ?_, w'⟩
      obtain ⟨o, e, _⟩ := T.obj _ _ stc b hb
      exact (keepF b hb o e).2
    cases ok with
    | false =>
      rw [if_neg (by decide)] at qe ⊢
      exact fin Ie (wipe_sub _ _) qe
    | true =>
      rw [if_pos rfl] at qe ⊢
      have zb := hb.run _ se σd He _ Ie qe
      unfold EmitW at zb ⊢
      cases hn : gens[depth + 1]? with
      | none =>
        rw [hn] at zb
        exact thnF zb fun x _ h10 => thnF h10 fun _ _ ⟨σ', H', I', sb, nx⟩ => fin I' sb nx
      | some g2 =>
        rw [hn] at zb
        obtain ⟨e1, e2, zb⟩ := zb
        refine ⟨e1, e2, thnF zb fun x _ h10 => thnF h10 fun _ _ h11 => codeAny_mono h11 fun r s' hr => ?_⟩
        cases r with
        | ok f =>
          obtain ⟨σ', H', I', sb, nx⟩ := hr
          exact fin I' sb nx
        | error e => exact hr.elim
theorem pb_more {tg iter : Expr} {ifs : List Expr} {wi : TI} {g : TG} {tt : TT} {b : TB} {is js : List Nat} (hx : X.xe = fun _ _ => False) (hc : X.calm = true) (h1 : gens[depth + 1]? = some ⟨tg, iter, ifs, 0⟩) (h2 : ∀ g, gens[depth + 2]? = some g → g.is_async = 0) (hj : ∀ i ∈ js, i ∈ is)
    (hi : PI X tg iter wi) (hg : PG X tg g) (ht : PTs X ifs tt) (hs : ∀ x, foldedSetIterable iter X.env x = pure x) (hb : PB X elt gens scope pos (depth + 1) D js b) : PB X elt gens scope pos depth D is (bMore wi g tt b is) := by
  refine ⟨fun pins s σ H N I h => ?_⟩
  unfold EmitW
  rw [h1]
  refine ⟨rfl, hs, ?_⟩
  have z := hi.run pins s σ H _ I h
  rw [hx] at z
  refine thnF z fun xv s1 ha => thnF ha fun itv s2 hb2 => ?_
  obtain ⟨it, fp, tn, J, H2, e, I2, T, st2, f2, W, ⟨m0, w0⟩, turn⟩ := hb2
  subst e
  have loop := loopN (R := fun r s' => match r with
      | .ok _ => ∃ σ' H', Inv X pins σ' H' s' ∧ SubS (L2.wipe σ is) σ' ∧ N H'
      | .error _ => False) hx hc h1 h2 hj hg ht hb T (I2.weak (wipe_length σ is) (fun j v e => (wipe_some e).1)) st2 (fun b hb => (f2 b hb).1) w0 (fun _ hn b hb => ⟨hn b hb, (f2 b hb).2⟩) turn fun H' s' I' nx => ⟨_, _, I', ⟨rfl, fun _ _ e => e⟩, nx⟩
  exact compStartN_ok h1 loop (T.self X.A 0 _ _ _ st2 loop)
/-- all clauses: the reading of the first one's turns -/
def tLcN (wi : TI) (g : TG) (tt : TT) (b : Addr → TB) (vs : List Nat) : TE := fun σ H Q => wi σ H fun J H1 => ∀ D, H1 D = none → ∃ W : Nat → Nat → Hp → Prop, (∃ m, W 0 m (upd H1 D (.lst []))) ∧ ∀ i m H, W i m H →
  (J.stop i H ∧ Q (.ref D) H) ∨ (J.go i H ∧ ∃ Nx : Hp → Prop, (∀ H', Nx H' → ∃ m', m' < m ∧ W (i + 1) m' H') ∧ ∀ x H', J.yld i H x H' → g x (L2.wipe σ vs) H' fun σ2 H2 => L2.wipe σ2 vs = L2.wipe σ vs ∧ tt σ2 H2 fun ok H3 => if ok = true then b D σ2 H3 Nx else Nx H3)
theorem lcN_core {pins : List (Addr × Obj)} {s : Shared} {σ : L2.St} {H : Hp} {Q : VK} {tg iter : Expr} {ifs : List Expr} {rest : List Comprehension} {own : List (Str × Nat)} {pos' : Pos} {wi : TI} {g : TG} {tt : TT} {b : Addr → TB} {js : List Nat} {use : Option (Value → Sem Unit)} {Qf : Value → Shared → Prop}
    (hc : X.calm = true) (hN : X.N.Nodup) (I : Inv X pins σ H s) (hi : PI X tg iter wi) (ok : BlkOk X.N X.env.scope scope own) (hj : ∀ i ∈ js, i ∈ own.map (·.2)) (h2 : ∀ g, rest[0]? = some g → g.is_async = 0)
    (hg : ∀ (s : Shared) (H : Hp) (C : Addr) (cl : List (Str × Addr)) (fp : List Addr), PG (X.blk s H scope (compEnvC scope cl C X.env) fp) tg g) (ht : ∀ (s : Shared) (H : Hp) (C : Addr) (cl : List (Str × Addr)) (fp : List Addr), PTs (X.blk s H scope (compEnvC scope cl C X.env) fp) ifs tt)
    (hb : ∀ (s : Shared) (H : Hp) (C : Addr) (cl : List (Str × Addr)) (fp : List Addr) (D : Addr), PB (X.blk s H scope (compEnvC scope cl C X.env) fp) elt (⟨tg, iter, ifs, 0⟩ :: rest) scope pos 0 D js (b D)) (hs : ∀ x, foldedSetIterable iter X.env x = pure x)
    (h : tLcN wi g tt b (own.map (·.2)) σ H Q)
    (hRR : ∀ D C s' m H', Inv X pins σ H' s' → Q (.ref D) H' → s'.heap.Ns C m → FpOk X pins H' C → compPost (model X.prog X.w) X.A X.xe use Qf (.ref D) C (.ok .next) s') :
    wpAny (model X.prog X.w) X.A (comprehension (.ListComp elt (⟨tg, iter, ifs, 0⟩ :: rest) scope pos) scope X.env pos' (newList []) false (eval iter X.env) use) Qf X.xe s := by
  have cells : ∀ y ∈ scope.names, y.2 = .free → ∃ c, X.env.cells.lookup y.1 = some c := fun y hy e => (ok.free y hy e).elim (fun k => I.ok.has _ (.inl k)) fun k => I.ok.has _ (.inr k)
  refine wpAny_comprehension_free (use := use) rfl hs (closure_ok cells) ok.kind (fun y hy e => by rw [ok.uniq y hy, e]) (thn (hi.run pins s σ H _ I h) fun xv sa hx => thn hx fun itv sb hy => ?_)
  obtain ⟨it, fp, tn, J, Hb, e, Ib, T, stb, fb, q⟩ := hy
  subst e
  refine wpAny_newObj_type (newEnv_comp ?_) (by show 0 ≤ sizeLine; decide)
  have hDn : Hb sb.heap.objs.size = none := Ib.hok.fresh (Nat.le_refl _)
  obtain ⟨W, ⟨m0, w0⟩, turn⟩ := q _ hDn
  have ap : ∀ b ∈ fp, b < sb.heap.objs.size := fun b hb => by
    obtain ⟨o, e, _⟩ := T.obj _ _ stb b hb
    exact Heap.lt_size e
  obtain ⟨sc, hsc⟩ : ∃ sc : Shared, sc = { sb with heap := sb.heap.push { cls := .type "list", data := .seq ([] : List Value).toArray } } := ⟨_, rfl⟩
  have Ic : Inv X pins σ (upd Hb sb.heap.objs.size (.lst [])) sc := by
    rw [hsc]
    exact Ib.laid (t' := sb.toks) (fun b o e => Heap.get?_push_of_some _ e) (Nat.le_refl _) ⟨Nat.zero_le _, [], 0, .nil, Heap.get?_push_size _ rfl⟩
  have stc : tn 0 sc.heap := T.keep _ _ _ stb fun b _ o e => by rw [hsc]; exact Heap.get?_push_of_some _ e
  have fc : ∀ b ∈ fp, FpOk X pins (upd Hb sb.heap.objs.size (.lst [])) b ∧ b < sc.heap.objs.size := fun b hb => by
    refine ⟨⟨?_, (fb b hb).2⟩, by rw [hsc]; show b < (sb.heap.push _).objs.size; rw [Heap.size_push]; exact Nat.lt_succ_of_lt (ap b hb)⟩
    rw [upd_ne (Nat.ne_of_lt (ap b hb))]
    exact (fb b hb).1
  rw [← hsc]
  generalize sb.heap.objs.size = D at w0 turn Ic fc ⊢
  generalize (upd Hb D (.lst []) : Hp) = Hc at w0 Ic fc
  have Id := block_start Ic ok hN fc
  -- the block's own context
  have pg := hg sc Hc sc.heap.objs.size (cellsFrom (sc.heap.objs.size + 1) scope.names (cloFrom X.env.cells scope.names [])) fp
  have pt := ht sc Hc sc.heap.objs.size (cellsFrom (sc.heap.objs.size + 1) scope.names (cloFrom X.env.cells scope.names [])) fp
  have pb := hb sc Hc sc.heap.objs.size (cellsFrom (sc.heap.objs.size + 1) scope.names (cloFrom X.env.cells scope.names [])) fp D
  obtain ⟨sd, hsd⟩ : ∃ sd : Shared, sd = { sc with heap := pushCells (sc.heap.push { cls := .type "dict", data := .dict #[] }) scope.names } := ⟨_, rfl⟩
  have std : tn 0 sd.heap := T.keep _ _ _ stc fun b _ o e => by rw [hsd]; exact pushCells_keeps _ _ _ _ (Heap.get?_push_of_some _ e)
  rw [← hsd] at Id
  show codeAny _ _ (.compStart (.ListComp elt (⟨tg, iter, ifs, 0⟩ :: rest) scope pos) 0 (.ref it) (.ref D) (compEnvC scope (cellsFrom (sc.heap.objs.size + 1) scope.names (cloFrom X.env.cells scope.names [])) sc.heap.objs.size X.env)) (compPost (model X.prog X.w) X.A X.xe use Qf (.ref D) sc.heap.objs.size) { sc with heap := pushCells (sc.heap.push { cls := .type "dict", data := .dict #[] }) scope.names }
  rw [← hsd]
  obtain ⟨ce, hce⟩ : ∃ ce : Env, ce = compEnvC scope (cellsFrom (sc.heap.objs.size + 1) scope.names (cloFrom X.env.cells scope.names [])) sc.heap.objs.size X.env := ⟨_, rfl⟩
  have cL : ce.locals = sc.heap.objs.size := by rw [hce]; rfl
  rw [← hce] at Id pg pt pb ⊢
  have loop := loopN (X := X.blk sc Hc scope ce fp) (R := compPost (model X.prog X.w) X.A X.xe use Qf (.ref D) sc.heap.objs.size) (G := Q (.ref D)) rfl hc rfl (by simpa using h2) hj pg pt pb T Id std (fun b hb => (fc b hb).1.1) w0
    (fun I' hn b hb => ⟨hn b hb, (I'.ok.exf b hb).1, I'.ok.exfs b hb, .inl hb, fun x c e => (I'.ok.exf b hb).2 x c e, fun p hp => absurd (show p ∈ ([] : List (Addr × Obj)) ++ [] from hp) (by simp)⟩) turn fun H' s' I' qq => by
      have Ie : Inv X pins σ H' s' := Ic.call' (ch := fp) I'.os I'.base I'.hok I'.bare fun b hb => ⟨(fc b hb).1.2.2.2.1, (fc b hb).1.2.1, (fc b hb).1.2.2.2.2.1, (fc b hb).1.2.2.2.2.2⟩
      have nC : H' ce.locals = none := I'.free
      rw [cL] at nC
      obtain ⟨m, hn, _⟩ := I'.loc
      have hn : s'.heap.Ns ce.locals m := hn
      rw [cL] at hn
      exact hRR D sc.heap.objs.size s' m H' Ie qq hn (Ic.fpOk (Nat.le_refl _) nC)
  exact codeAny_compStart_list loop (T.self X.A 0 _ _ _ std loop)
theorem pe_lcN {tg iter : Expr} {ifs : List Expr} {rest : List Comprehension} {own : List (Str × Nat)} {wi : TI} {g : TG} {tt : TT} {b : Addr → TB} {js : List Nat} (hc : X.calm = true) (hN : X.N.Nodup) (hi : PI X tg iter wi) (ok : BlkOk X.N X.env.scope scope own) (hj : ∀ i ∈ js, i ∈ own.map (·.2)) (h2 : ∀ g, rest[0]? = some g → g.is_async = 0)
    (hg : ∀ (s : Shared) (H : Hp) (C : Addr) (cl : List (Str × Addr)) (fp : List Addr), PG (X.blk s H scope (compEnvC scope cl C X.env) fp) tg g) (ht : ∀ (s : Shared) (H : Hp) (C : Addr) (cl : List (Str × Addr)) (fp : List Addr), PTs (X.blk s H scope (compEnvC scope cl C X.env) fp) ifs tt)
    (hb : ∀ (s : Shared) (H : Hp) (C : Addr) (cl : List (Str × Addr)) (fp : List Addr) (D : Addr), PB (X.blk s H scope (compEnvC scope cl C X.env) fp) elt (⟨tg, iter, ifs, 0⟩ :: rest) scope pos 0 D js (b D)) (hs : ∀ x, foldedSetIterable iter X.env x = pure x := by intro _; rfl) :
    PE X (.ListComp elt (⟨tg, iter, ifs, 0⟩ :: rest) scope pos) (tLcN wi g tt b (own.map (·.2))) := by
  refine ⟨fun pins s σ H Q I h => ?_⟩
  rw [eval_ListComp]
  exact lcN_core hc hN I hi ok hj h2 hg ht hb hs h fun D C s' m H' I' q hn f => ⟨m, hn, fun h'' sb => ⟨.ref D, H', I'.turned (t' := s'.toks) (fun b o hb e => (sb.2 b hb).trans e) f.1 f.2.1 f.2.2.2.1 f.2.2.2.2.1 f.2.2.2.2.2, rfl, q⟩⟩
end
end DD
/-! part DM -/
set_option Elab.async false
set_option linter.all false
set_option maxRecDepth 100000
set_option maxHeartbeats 4000000
namespace DD
open PySem PySem.Spec PyProof.Rows L2 LamX

/-! ### comprehensions of several clauses, read -/
abbrev BM := Ev → Sto → Option (List PyData × Sto)
def bdE (el : Ev → M Vl) : BM := fun ev S => match el ev S with
  | some (.ok (.d z), S') => some ([z], S')
  | _ => none
def compB (g : Vl → Ev → Option Ev) (t : Ev → M Bool) (bd : BM) (ev : Ev) : List PyData → Sto → Option (List PyData × Sto)
  | [], S => some ([], S)
  | d :: ds, S => match g (.d d) ev with
    | none => none
    | some ev1 => match t ev1 S with
      | some (.ok true, S1) => match bd ev1 S1 with
        | some (z, S2) => match compB g t bd ev ds S2 with
          | some (zs, S3) => some (z ++ zs, S3)
          | none => none
        | none => none
      | some (.ok false, S1) => compB g t bd ev ds S1
      | _ => none
def bdC (fi : Ev → M (List PyData)) (g : Vl → Ev → Option Ev) (t : Ev → M Bool) (bd : BM) (is : List Nat) : BM := fun ev S => match fi ev S with
  | some (.ok ds, S1) => compB g t bd (wipeE ev is) ds S1
  | _ => none
def fCompN (fi : Ev → M (List PyData)) (g : Vl → Ev → Option Ev) (t : Ev → M Bool) (bd : BM) (own : List Nat) : Ev → M Vl := fun ev => do
  let ds ← fi ev
  fun S => match compB g t bd (wipeE ev own) ds S with
    | some (zs, S') => if zs.length ≤ 1000000 then some (.ok (.d (.list zs)), S') else none
    | none => none
/-- what may stand beside a hidden list that grows -/
structure Stab (wd : Wg) (K : PySem.W.Frag) (F : Lv → Hp → Prop) : Prop where
  ext : ∀ lam r r' H H', F r H → Ext lam r r' H H' → F r' H'
  putH : ∀ r H S D xs, F r H → StoRel wd K r H S → D ∈ r.hid → F r (upd H D (.lst xs))
theorem Yields.stab {wd : Wg} {K : PySem.W.Frag} {J : It} {ds : List PyData} {F : Lv → Hp → Prop} (Y : Yields wd K J ds F) : Stab wd K F := ⟨fun lam r r' H H' h e => Y.ext lam r r' H H' h e, fun r H S D xs h s hD => Y.putH r H S D xs h s hD⟩
theorem Stab.and {wd : Wg} {K : PySem.W.Frag} {F G : Lv → Hp → Prop} (a : Stab wd K F) (b : Stab wd K G) : Stab wd K fun r H => F r H ∧ G r H := ⟨fun lam r r' H H' h e => ⟨a.ext lam r r' H H' h.1 e, b.ext lam r r' H H' h.2 e⟩, fun r H S D xs h s hD => ⟨a.putH r H S D xs h.1 s hD, b.putH r H S D xs h.2 s hD⟩⟩
theorem stab_ev {wd : Wg} {K : PySem.W.Frag} {mg : Str → Option Value} {σ : L2.St} {ev : Ev} : Stab wd K fun r H => EvR K mg r σ H ev := ⟨fun lam r r' H H' h e => h.ext e, fun r H S D xs h s hD => h.putH s hD⟩
/-- what a comprehension has come to; G stands beside it -/
structure CompG (X : Cx) (c : Cf) (r1 : Lv) (H1 : Hp) (D : Addr) (G : Lv → Hp → Prop) (r : Lv) (H : Hp) (S : Sto) (acc : List PyData) : Prop where
  ext : Ext c.lam r1 r H1 H
  sto : StoRel (wg X) X.K (r.hide D) H S
  tabs : Tabs c.T H
  g : G (r.hide D) H
  at_ : ∃ accV, H D = some (.lst accV) ∧ RpAll X.K (r.hide D) H accV acc
section
variable {X : Cx} {c : Cf} {r1 r : Lv} {H1 H H' : Hp} {D : Addr} {G G' : Lv → Hp → Prop} {S S' : Sto} {acc : List PyData}
theorem CompG.step {r' : Lv} (Z : Stab (wg X) X.K G) (C : CompG X c r1 H1 D G r H S acc) (E : Ext c.lam (r.hide D) r' H H') (s : StoRel (wg X) X.K r' H' S') (t : Tabs c.T H') : ∃ r2, r' = r2.hide D ∧ CompG X c r1 H1 D G r2 H' S' acc := by
  obtain ⟨r2, rfl, e2⟩ := C.ext.under E
  obtain ⟨accV, h1, h2⟩ := C.at_
  refine ⟨r2, rfl, e2, s, t, Z.ext _ _ _ _ _ C.g E, ⟨accV, ?_, h2.ext E⟩⟩
  rcases E.keep D _ h1 (C.sto.apart D List.mem_cons_self) with q | ⟨_, ps, q⟩
  · exact q
  · cases q
theorem CompG.put {z : PyData} {v : V} (Z : Stab (wg X) X.K G) (C : CompG X c r1 H1 D G r H S acc) (q : Rp X.K (r.hide D) H v z) (hD : H1 D = none) : ∀ accV, H D = some (.lst accV) → CompG X c r1 H1 D G r (upd H D (.lst (accV ++ [v]))) S (acc ++ [z]) := fun accV hV => by
  obtain ⟨accV', h1, h2⟩ := C.at_
  rw [hV] at h1
  cases h1
  have hm : D ∈ (r.hide D).hid := List.mem_cons_self
  exact ⟨C.ext.fresh hD, C.sto.putH hm, tabs_put C.tabs hV, Z.putH _ _ _ _ _ C.g C.sto hm, ⟨_, upd_same, Ext.putH C.sto.mu hm (h2.append (.cons q .nil))⟩⟩
theorem CompG.to (C : CompG X c r1 H1 D G r H S acc) (h : G' (r.hide D) H) : CompG X c r1 H1 D G' r H S acc := ⟨C.ext, C.sto, C.tabs, h, C.at_⟩
/-- behind a turn's tests: the mirror bd, then N -/
def tB (X : Cx) (c : Cf) (bd : BM) (D : Addr) : TB := fun σ H N => ∃ r1 H1 G r ev S acc z S', H1 D = none ∧ Stab (wg X) X.K G ∧ CompG X c r1 H1 D G r H S acc ∧ EvR X.K X.mg (r.hide D) σ H ev ∧ σ.length = X.N.length ∧ bd ev S = some (z, S') ∧ acc.length + z.length ≤ 1000000 ∧ ∀ r' H', CompG X c r1 H1 D G r' H' S' (acc ++ z) → N H'
def QB (X : Cx) (c : Cf) (elt : Expr) (gens : List Comprehension) (scope : Scope) (pos : Pos) (depth : Nat) (js : List Nat) (bd : BM) : Prop := ∀ D, PB X elt gens scope pos depth D js (tB X c bd D)
theorem pb_weak {elt : Expr} {gens : List Comprehension} {scope : Scope} {pos : Pos} {depth : Nat} {js : List Nat} {b b' : TB} (h : PB X elt gens scope pos depth D js b) (k : ∀ σ H N, b' σ H N → b σ H N) : PB X elt gens scope pos depth D js b' := ⟨fun pins s σ H N I q => h.run pins s σ H N I (k _ _ _ q)⟩
theorem CompG.rel {σ : L2.St} {ev : Ev} (C : CompG X c r1 H1 D G r H S acc) (e : EvR X.K X.mg (r.hide D) σ H ev) (hl : σ.length = X.N.length) : Rel X c (r.hide D) σ H ev S := ⟨C.sto, C.tabs, e, hl⟩
variable {elt : Expr} {gens : List Comprehension} {scope : Scope} {pos : Pos} {depth : Nat}
theorem qb_last {el : Ev → M Vl} (hx : X.xe = fun _ _ => False) (he : QE X c W0 elt el) (js : List Nat) (h1 : gens[depth + 1]? = none := by rfl) : QB X c elt gens scope pos depth js (bdE el) := fun D =>
  pb_weak (pb_last hx he h1 js) fun σ H N ⟨r1, H1, G, r, ev, S, acc, z, S', hD, Z, C, e, hl, eb, hz, hN⟩ => by
    unfold bdE at eb
    split at eb
    · rename_i z0 S2 ee
      cases eb
      refine ⟨r.hide D, ev, S, C.rel e hl, .ok (.d z0), _, ee, fun r' v H' E s t q => ?_⟩
      obtain ⟨r2, rfl, C2⟩ := C.step Z E s t
      obtain ⟨accV, hV, hR⟩ := C2.at_
      refine ⟨accV, hV, ?_, hN _ _ (C2.put Z q hD accV hV)⟩
      rw [hR.length, sizeLine_eq]
      simp at hz
      omega
    · cases eb
/-- a clause's turns, read: the invariant of its loop -/
theorem turns {g : Vl → Ev → Option Ev} {t : Ev → M Bool} {bd : BM} {J : It} {ds : List PyData} {F G : Lv → Hp → Prop} {ev : Ev} {τ : L2.St} {is js : List Nat} {Se : Sto} {zs : List PyData} {Gd : Hp → Prop} (hD : H1 D = none) (Y : Yields (wg X) X.K J ds F) (Z : Stab (wg X) X.K G) (hl : τ.length = X.N.length) (his : ∀ i ∈ js, i ∈ is) (hw : L2.wipe τ is = τ)
    (hd : ∀ r H, CompG X c r1 H1 D (fun r H => (F r H ∧ EvR X.K X.mg r τ H ev) ∧ G r H) r H Se zs → Gd H) (hz : zs.length ≤ 1000000) :
    let W : Nat → Nat → Hp → Prop := fun i m H => m = ds.length - i ∧ i ≤ ds.length ∧ ∃ r S acc rest, CompG X c r1 H1 D (fun r H => (F r H ∧ EvR X.K X.mg r τ H ev) ∧ G r H) r H S acc ∧ compB g t bd ev (ds.drop i) S = some (rest, Se) ∧ acc ++ rest = zs
    ∀ j k H, W j k H → (J.stop j H ∧ Gd H) ∨ (J.go j H ∧ ∃ Nx : Hp → Prop, (∀ H', Nx H' → ∃ k', k' < k ∧ W (j + 1) k' H') ∧ ∀ x H', J.yld j H x H' → tG X c g js x τ H' fun σ3 H5 => L2.wipe σ3 is = τ ∧ tT X c W0 t σ3 H5 fun b1 H6 => if b1 = true then tB X c bd D σ3 H6 Nx else Nx H6) := by
  intro W
  have Zz : Stab (wg X) X.K (fun r H => (F r H ∧ EvR X.K X.mg r τ H ev) ∧ G r H) := (Y.stab.and stab_ev).and Z
  rintro i m H2 ⟨rfl, hil, r, S, acc, rest, C, e2, e3⟩
  by_cases hlt : i < ds.length
  · refine .inr ⟨Y.go _ _ _ C.g.1.1 hlt, fun H' => ∃ r S acc rest, CompG X c r1 H1 D (fun r H => (F r H ∧ EvR X.K X.mg r τ H ev) ∧ G r H) r H' S acc ∧ compB g t bd ev (ds.drop (i + 1)) S = some (rest, Se) ∧ acc ++ rest = zs, fun H' q => ⟨ds.length - (i + 1), by omega, rfl, hlt, q⟩, fun v H' y => ?_⟩
    have hdi : ds[i]? = some ds[i] := List.getElem?_eq_getElem hlt
    obtain ⟨E, s', q⟩ := Y.yld _ _ _ _ _ _ _ C.g.1.1 C.sto hdi y
    obtain ⟨r2, er2, C'⟩ := C.step Zz E.up s' (tabs_ext E C.tabs)
    have hr2 : r2.hide D = r.hide D := er2.symm
    rw [← hr2] at q
    rw [List.drop_eq_getElem_cons hlt] at e2
    simp only [compB] at e2
    split at e2
    · cases e2
    · rename_i ev1 eg
      refine ⟨r2.hide D, ev, S, .d ds[i], ev1, C'.rel C'.g.1.2 hl, q, eg, fun σ2 x2 sb => ⟨?_, ?_⟩⟩
      · rw [wipe_eq sb his, hw]
      · split at e2
        · rename_i S2 et
          refine ⟨r2.hide D, ev1, S, x2, .ok true, S2, et, fun r3 b H3 E3 s3 t3 q3 => ?_⟩
          cases q3
          rw [if_pos rfl]
          obtain ⟨r4, rfl, C3⟩ := C'.step Zz E3 s3 t3
          split at e2
          · rename_i z S4 eb
            split at e2
            · rename_i zs' S6 er
              cases e2
              refine ⟨r1, H1, _, r4, ev1, S2, acc, z, S4, hD, Zz, C3, x2.ev.ext E3, x2.len, eb, ?_, fun r' H'' C4 => ⟨r', S4, acc ++ z, zs', C4, er, by rw [← e3]; simp⟩⟩
              have := congrArg List.length e3
              simp at this
              omega
            · cases e2
          · cases e2
        · rename_i S2 et
          refine ⟨r2.hide D, ev1, S, x2, .ok false, S2, et, fun r3 b H3 E3 s3 t3 q3 => ?_⟩
          cases q3
          rw [if_neg (by decide)]
          obtain ⟨r4, rfl, C3⟩ := C'.step Zz E3 s3 t3
          exact ⟨r4, S2, acc, rest, C3, e2, e3⟩
        · cases e2
  · have e : i = ds.length := by omega
    subst e
    rw [List.drop_length] at e2
    cases e2
    rw [List.append_nil] at e3
    subst e3
    exact .inl ⟨Y.stop _ _ C.g.1.1, hd _ _ C⟩
theorem qb_more {tg iter : Expr} {ifs : List Expr} {fi : Ev → M (List PyData)} {g : Vl → Ev → Option Ev} {t : Ev → M Bool} {bd : BM} {ks is js : List Nat} (hx : X.xe = fun _ _ => False) (hc : X.calm = true) (hi : QI X c W0 tg iter fi) (hg : QG X c tg g ks) (ht : QTs X c W0 ifs t) (hb : QB X c elt gens scope pos (depth + 1) js bd)
    (h1 : gens[depth + 1]? = some ⟨tg, iter, ifs, 0⟩ := by rfl) (h2 : ∀ g, gens[depth + 2]? = some g → g.is_async = 0 := by intro g e; cases e <;> rfl) (hj : ∀ i ∈ js, i ∈ is := by decide) (hk : ∀ i ∈ ks, i ∈ is := by decide) (hs : ∀ x, foldedSetIterable iter X.env x = pure x := by intro _; rfl) :
    QB X c elt gens scope pos depth is (bdC fi g t bd is) := fun D => pb_weak (pb_more hx hc h1 h2 hj hi hg ht hs (hb D)) fun σ H N ⟨r1, H1, G, r, ev, S, acc, z, S', hD, Z, C, e, hl, eb, hz, hN⟩ => by
  unfold bdC at eb
  split at eb
  · rename_i ds S1 ef
    refine ⟨r.hide D, ev, S, C.rel e hl, .ok ds, S1, ef, fun r' J H4 E s t4 ⟨F, Y, zf⟩ => ?_⟩
    obtain ⟨r2, rfl, C2⟩ := C.step Z E s t4
    have T := turns (J := J) (g := g) (t := t) (bd := bd) (c := c) (ds := ds) (F := F) (G := G) (ev := wipeE ev is) (τ := L2.wipe σ is) (is := is) (js := ks) (Se := S') (zs := acc ++ z) (Gd := N) hD Y Z (by rw [wipe_length]; exact hl) hk (wipe_wipe σ is) (fun r' H' C' => hN r' H' (C'.to C'.g.2)) (by simp; exact hz)
    exact ⟨_, ⟨ds.length - 0, rfl, Nat.zero_le _, r2, S1, acc, z, C2.to ⟨⟨zf, (e.ext E).wipe is⟩, C2.g⟩, eb, rfl⟩, T⟩
  · cases eb
theorem compN_weak {fi : Ev → M (List PyData)} {g : Vl → Ev → Option Ev} {t : Ev → M Bool} {bd : BM} {own ks : List Nat} {W : WX} {σ : L2.St} {Q : VK} (hk : ∀ i ∈ ks, i ∈ own) (h : tE X c W (fCompN fi g t bd own) σ H Q) :
    tLcN (tX X c W (RI (wg X) X.K) fi) (tG X c g ks) (tT X c W0 t) (fun D => tB X c bd D) own σ H Q := by
  obtain ⟨r, ev, S, x, h⟩ := h
  refine tX.of x h.bind fun J H1 ⟨r1, S1, ds, e1, s1, t1, ⟨F, Y, z1⟩, h1⟩ D hD => ?_
  have x1 := x.ext e1 s1 t1
  obtain ⟨o, Se, eo, hq⟩ := h1
  dsimp only at eo
  cases ec : compB g t bd (wipeE ev own) ds S1 with
  | none => rw [ec] at eo; cases eo
  | some p =>
    obtain ⟨zs, Sx⟩ := p
    rw [ec] at eo
    dsimp only at eo
    split at eo
    · rename_i hz
      cases eo
      have T := turns (J := J) (g := g) (t := t) (bd := bd) (c := c) (ds := ds) (F := F) (G := fun _ _ => True) (ev := wipeE ev own) (τ := L2.wipe σ own) (is := own) (js := ks) (Se := Se) (zs := zs) (Gd := Q (.ref D)) (r1 := r1) (H1 := H1) hD Y ⟨fun _ _ _ _ _ _ _ => trivial, fun _ _ _ _ _ _ _ _ => trivial⟩ (by rw [wipe_length]; exact x1.len) hk (wipe_wipe σ own) (fun r' H' C' => by
        obtain ⟨accV, g1, g2⟩ := C'.at_
        refine hq r' (.ref D) H' C'.ext C'.sto.show C'.tabs (.lst (.inl ⟨g1, C'.sto.apart D List.mem_cons_self, ?_⟩) g2.show)
        obtain ⟨n, rfl, _⟩ := C'.ext.pre
        exact (s1.no hD).2) hz
      refine ⟨_, ⟨ds.length - 0, rfl, Nat.zero_le _, r1, S1, [], zs, ⟨Ext.new s1.mu hD, s1.hide hD, tabs_ext (Ext.new (lam := false) s1.mu hD) t1, ⟨⟨Y.hide _ _ _ _ z1 s1 hD, (x1.ev.wipe own).hide hD⟩, trivial⟩, [], upd_same, .nil⟩, ec, rfl⟩, T⟩
    · cases eo
end
section
variable {X : Cx} {c : Cf} {W : WX} {s : Shared} {H0 : Hp} {scope : Scope} {cenv : Env} {fp : List Addr}
theorem tB_blk {bd : BM} {D : Addr} : tB (X.blk s H0 scope cenv fp) c bd D = tB X c bd D := by
  unfold tB
  have e : ∀ r1 H1 G r H S acc, CompG (X.blk s H0 scope cenv fp) c r1 H1 D G r H S acc = CompG X c r1 H1 D G r H S acc := fun r1 H1 G r H S acc => propext ⟨fun h => ⟨h.1, h.2, h.3, h.4, h.5⟩, fun h => ⟨h.1, h.2, h.3, h.4, h.5⟩⟩
  simp only [e]
theorem qb_blk {elt : Expr} {gens : List Comprehension} {sc2 : Scope} {pos : Pos} {depth : Nat} {js : List Nat} {bd : BM} (h : QB (X.blk s H0 scope cenv fp) c elt gens sc2 pos depth js bd) (D : Addr) : PB (X.blk s H0 scope cenv fp) elt gens sc2 pos depth D js (tB X c bd D) := by
  have := h D
  rw [tB_blk] at this
  exact this
end
theorem qe_compN {X : Cx} {c : Cf} {W : WX} {pos : Pos} {elt tg it : Expr} {ifs : List Expr} {rest : List Comprehension} {scope : Scope} {own : List (Str × Nat)} {fi : Ev → M (List PyData)} {g : Vl → Ev → Option Ev} {t : Ev → M Bool} {bd : BM} {ks js : List Nat} (hc : X.calm = true) (hN : X.N.Nodup) (hi : QI X c W tg it fi) (ok : BlkOk X.N X.env.scope scope own)
    (hg : ∀ (s : Shared) (H : Hp) (C : Addr) (cl : List (Str × Addr)) (fp : List Addr), QG (X.blk s H scope (compEnvC scope cl C X.env) fp) c tg g ks) (ht : ∀ (s : Shared) (H : Hp) (C : Addr) (cl : List (Str × Addr)) (fp : List Addr), QTs (X.blk s H scope (compEnvC scope cl C X.env) fp) c W0 ifs t)
    (hb : ∀ (s : Shared) (H : Hp) (C : Addr) (cl : List (Str × Addr)) (fp : List Addr), QB (X.blk s H scope (compEnvC scope cl C X.env) fp) c elt (⟨tg, it, ifs, 0⟩ :: rest) scope pos 0 js bd)
    (h2 : ∀ g, rest[0]? = some g → g.is_async = 0 := by intro g e; cases e <;> rfl) (hj : ∀ i ∈ js, i ∈ own.map (·.2) := by decide) (hk : ∀ i ∈ ks, i ∈ own.map (·.2) := by decide) (hs : ∀ x, foldedSetIterable it X.env x = pure x := by intro _; rfl) :
    QE X c W (.ListComp elt (⟨tg, it, ifs, 0⟩ :: rest) scope pos) (fCompN fi g t bd (own.map (·.2))) := by
  refine pe_weak (pe_lcN (wi := tX X c W (RI (wg X) X.K) fi) (g := tG X c g ks) (tt := tT X c W0 t) (b := fun D => tB X c bd D) hc hN hi ok hj h2 (fun s H C cl fp => pg_blk (hg s H C cl fp)) (fun s H C cl fp => pts_blk (ht s H C cl fp)) (fun s H C cl fp D => qb_blk (hb s H C cl fp) D) hs) fun σ H Q h => compN_weak hk h
end DD
/-! part DE -/
set_option Elab.async false
set_option linter.all false
set_option maxRecDepth 100000
set_option maxHeartbeats 4000000
namespace DD
open PySem PySem.Spec PyProof.Rows L2 LamX

/-! ### keys of dicts -/
mutual
def keyN : PyData → Option NK
  | .none => some .none
  | .bool b => some (.bool b)
  | .int i => some (.num i)
  | .str x => some (.text x)
  | .tuple ds => match keysN ds with
    | some ks => some (.tup ks)
    | none => none
  | _ => none
def keysN : List PyData → Option (List NK)
  | [] => some []
  | d :: ds => match keyN d, keysN ds with
    | some k, some ks => some (k :: ks)
    | _, _ => none
end
mutual
theorem keyN_data : ∀ {d : PyData} {k : NK}, keyN d = some k → k.data = d
  | .none, _, h => by cases h; rfl
  | .bool b, _, h => by cases h; rfl
  | .int i, _, h => by cases h; rfl
  | .str x, _, h => by cases h; rfl
  | .tuple ds, k, h => by
    rw [keyN] at h
    cases e : keysN ds with
    | none => rw [e] at h; cases h
    | some ks =>
      rw [e] at h
      cases h
      rw [NK.data, keysN_data e]
  | .list b, _, h => by cases h
  | .dict b, _, h => by cases h
theorem keysN_data : ∀ {ds : List PyData} {ks : List NK}, keysN ds = some ks → NK.datas ks = ds
  | [], _, h => by cases h; rfl
  | d :: ds, _, h => by
    rw [keysN] at h
    cases e : keyN d with
    | none => rw [e] at h; cases h
    | some k =>
      cases e2 : keysN ds with
      | none => rw [e, e2] at h; cases h
      | some ks =>
        rw [e, e2] at h
        cases h
        rw [NK.datas, keyN_data e, keysN_data e2]
end
section
variable {X : Cx} {pins : List (Addr × Obj)} {σ : L2.St} {r : Lv} {H : Hp} {s : Shared}
mutual
theorem nested_of (I : Inv X pins σ H s) : ∀ {k : NK} {v : V} {u : Value}, Rp X.K r H v k.data → RelV v u → NestedIs s.heap k.toN u
  | .none, v, u, q, rv => by
    rw [NK.data] at q
    cases q
    cases rv
    exact .none
  | .num i, v, u, q, rv => by
    rw [NK.data] at q
    cases q
    obtain ⟨t, rfl⟩ := rv
    exact .int i t
  | .bool b, v, u, q, rv => by
    rw [NK.data] at q
    cases q
    cases rv
    exact .bool rfl
  | .text x, v, u, q, rv => by
    rw [NK.data] at q
    cases q
    obtain ⟨t, rfl⟩ := rv
    exact .text x t
  | .tup ks, v, u, q, rv => by
    rw [NK.data] at q
    cases q with
    | tup h t =>
      cases rv
      obtain ⟨its, rs, ⟨o, e, c, n, d⟩, _⟩ := I.tuple h
      exact .tup e c d (by simpa using nestedAll_of I t rs)
theorem nestedAll_of (I : Inv X pins σ H s) : ∀ {ks : List NK} {vs : List V} {us : List Value}, RpAll X.K r H vs (NK.datas ks) → Vals vs us → NestedAll s.heap (NK.toNs ks) us
  | [], _, _, q, rs => by
    rw [NK.datas] at q
    cases q
    cases rs
    exact .nil
  | k :: ks, _, _, q, rs => by
    rw [NK.datas] at q
    cases q with
    | cons q t =>
      cases rs with
      | cons a b => exact .cons (nested_of I q a) (nestedAll_of I t b)
end
end
def isTupK : NestedKey → Bool
  | .tup _ => true
  | _ => false
def NK.isTup : NK → Bool
  | .tup _ => true
  | _ => false
theorem isTup_toN : ∀ k : NK, isTupK k.toN = k.isTup
  | .none => rfl
  | .num _ => rfl
  | .bool _ => rfl
  | .text _ => rfl
  | .tup _ => rfl
def lookK (kvs : List (NK × PyData)) (k : NK) : Option PyData := (kvs.find? fun p => decide (p.1.toN = k.toN)).map (·.2)
def putKV (kvs : List (NK × PyData)) (k : NK) (d : PyData) : List (NK × PyData) :=
  if kvs.any (fun p => decide (p.1.toN = k.toN)) then kvs.map (fun p => if p.1.toN = k.toN then (p.1, d) else p) else kvs ++ [(k, d)]
def lookV (ps : List (NestedKey × Addr × V)) (k : NestedKey) : Option V := (ps.find? fun p => decide (p.1 = k)).map (·.2.2)
def putVV (ps : List (NestedKey × Addr × V)) (k : NestedKey) (b : Addr) (v : V) : List (NestedKey × Addr × V) :=
  if ps.any (fun p => decide (p.1 = k)) then ps.map (fun p => if p.1 = k then (p.1, p.2.1, v) else p) else ps ++ [(k, b, v)]
/-- all keys of k's flavour -/
def flav (k : NK) (kvs : List (NK × PyData)) : Bool := kvs.all fun p => p.1.isTup == k.isTup
section
variable {K : PySem.W.Frag} {r : Lv} {H : Hp} {ps : List (NestedKey × Addr × V)} {qs : List (NK × PyData)}
theorem RpKV.look (h : RpKV K r H ps qs) (k : NK) : (lookV ps k.toN = none ∧ lookK qs k = none) ∨ ∃ v d, lookV ps k.toN = some v ∧ lookK qs k = some d ∧ Rp K r H v d := by
  induction h with
  | nil => exact .inl ⟨rfl, rfl⟩
  | @cons j b v d ps qs h1 h2 t ih =>
    unfold lookV lookK at ih ⊢
    rw [List.find?_cons, List.find?_cons]
    by_cases e : j.toN = k.toN
    · simp only [e, decide_true]
      exact .inr ⟨v, d, rfl, rfl, h2⟩
    · simp only [e, decide_false]
      exact ih
theorem RpKV.isSome (h : RpKV K r H ps qs) (k : NK) : (lookV ps k.toN).isSome = (lookK qs k).isSome := by
  rcases h.look k with ⟨a, b⟩ | ⟨v, d, a, b, _⟩ <;> rw [a, b] <;> rfl
theorem RpKV.any (h : RpKV K r H ps qs) (k : NK) : (ps.any fun p => decide (p.1 = k.toN)) = (qs.any fun p => decide (p.1.toN = k.toN)) := by
  induction h with
  | nil => rfl
  | cons _ _ _ ih => rw [List.any_cons, List.any_cons, ih]
theorem RpKV.put {k : NK} {b : Addr} {v : V} {d : PyData} (h : RpKV K r H ps qs) (hb : k.isBool = false) (hk : ∀ ks, k = .tup ks → Rp K r H (.ref b) k.data ∧ k.toN.depth ≤ 8) (q : Rp K r H v d) : RpKV K r H (putVV ps k.toN b v) (putKV qs k d) := by
  unfold putVV putKV
  rw [h.any k]
  split
  · have mp : ∀ {ps qs}, RpKV K r H ps qs → RpKV K r H (ps.map (fun p => if p.1 = k.toN then (p.1, p.2.1, v) else p)) (qs.map (fun p => if p.1.toN = k.toN then (p.1, d) else p)) := by
      intro ps qs h
      induction h with
      | nil => exact .nil
      | @cons j b v d ps qs h1 h2 t ih =>
        rw [List.map_cons, List.map_cons]
        by_cases e : j.toN = k.toN
        · rw [if_pos e, if_pos e]
          exact .cons h1 q ih
        · rw [if_neg e, if_neg e]
          exact .cons h1 h2 ih
    exact mp h
  · have ap : ∀ {ps qs}, RpKV K r H ps qs → RpKV K r H (ps ++ [(k.toN, b, v)]) (qs ++ [(k, d)]) := by
      intro ps qs h
      induction h with
      | nil => exact .cons ⟨hb, hk⟩ q .nil
      | cons h1 h2 t ih => exact .cons h1 h2 ih
    exact ap h
theorem RpKV.flav_t (h : RpKV K r H ps qs) {k : NK} (f : flav k qs = true) : ∀ p ∈ ps, isTupK p.1 = k.isTup := by
  induction h with
  | nil => intro p hp; cases hp
  | cons h1 h2 t ih =>
    unfold flav at f ih
    rw [List.all_cons, Bool.and_eq_true] at f
    intro p hp
    rcases List.mem_cons.mp hp with e | hp
    · rw [e]; exact (isTup_toN _).trans (eq_of_beq f.1)
    · exact ih f.2 p hp
end

/-! ### the forms of a dict's object -/
def KVn (ps : List (NestedKey × Addr × V)) (vs : List (Option Key × Value)) : Prop := Paired (fun (p : NestedKey × Addr × V) (q : Option Key × Value) => p.1 = nkeyV q.1 ∧ RelV p.2.2 q.2) ps vs
def KTn (ps : List (NestedKey × Addr × V)) (xs : List (NestedKey × Addr × Value)) : Prop := Paired (fun (p : NestedKey × Addr × V) (q : NestedKey × Addr × Value) => p.1 = q.1 ∧ p.2.1 = q.2.1 ∧ RelV p.2.2 q.2.2) ps xs
theorem nkeyV_inj {a b : Option Key} (h : nkeyV a = nkeyV b) : a = b := by
  rcases a with _ | (i | x) <;> rcases b with _ | (j | y) <;> cases h <;> rfl
theorem nkeyV_tup {a : Option Key} {ks : List NestedKey} : nkeyV a ≠ .tup ks := by
  rcases a with _ | (i | x) <;> intro h <;> cases h
theorem nkeyV_of {k : NestedKey} (h : isTupK k = false) : ∃ j, k = nkeyV j := by
  cases k with
  | none => exact ⟨none, rfl⟩
  | num i => exact ⟨some (.inl i), rfl⟩
  | text x => exact ⟨some (.inr x), rfl⟩
  | tup ks => cases h
theorem nkeyV_is {k : NK} {j : Option Key} (h : k.toN = nkeyV j) (nb : k.isBool = false) {d : PyData} (e : keyN d = some k) {K : PySem.W.Frag} {r : Lv} {H : Hp} {v : V} {u : Value} {P : Program} {w : World} (q : Rp K r H v d) (rv : RelV v u) : (noneKind P w).is j u = true := by
  have hd := keyN_data e
  cases k with
  | none =>
    have e2 : j = none := nkeyV_inj (a := j) (b := none) h.symm
    subst e2
    rw [NK.data] at hd
    subst hd
    cases q
    cases rv
    rfl
  | num i =>
    have e2 : j = some (.inl i) := nkeyV_inj (a := j) (b := some (.inl i)) h.symm
    subst e2
    rw [NK.data] at hd
    subst hd
    cases q
    exact kV_is (P := P) (w := w) (k := .inl i) rv
  | text x =>
    have e2 : j = some (.inr x) := nkeyV_inj (a := j) (b := some (.inr x)) h.symm
    subst e2
    rw [NK.data] at hd
    subst hd
    cases q
    exact kV_is (P := P) (w := w) (k := .inr x) rv
  | bool b => cases nb
  | tup ks => exact absurd h.symm nkeyV_tup
section
variable {P : Program} {wd : World} {a : Addr} {ps : List (NestedKey × Addr × V)} {h h' : Heap} {H : Hp}
theorem DForm.stay (x : DForm wd a ps h) (k : ∀ o, h.get? a = some o → h'.get? a = some o) : DForm wd a ps h' := by
  obtain ⟨z, y, d⟩ := x
  refine ⟨z, y, ?_⟩
  rcases d with ⟨vs, r, d⟩ | ⟨t, xs, r, o, es, ep, e, c⟩
  · refine .inl ⟨vs, r, fun P => ?_⟩
    obtain ⟨o, es, ep, e, c⟩ := d P
    exact ⟨o, es, ep, k _ e, c⟩
  · exact .inr ⟨t, xs, r, o, es, ep, k _ e, c⟩
theorem hoD_ok (x : DForm wd a ps h) : ObjOk P wd H h a (HoD wd a ps) := ⟨x, by obtain ⟨o, es, ep, e, _⟩ := x.obj; exact ⟨o, e⟩, fun h1 h2 y k => DForm.stay y k⟩
theorem dform_val (x : DForm wd a ps h) (f : ∀ p ∈ ps, isTupK p.1 = false) : ∃ vs, KVn ps vs ∧ ∀ P : Program, h.DictOf (noneKind P wd) a vs := by
  obtain ⟨z, y, ⟨vs, r, d⟩ | ⟨t, xs, r, o, es, ep, e, c, d, hes, _⟩⟩ := x
  · exact ⟨vs, r, d⟩
  · cases ps with
    | cons p ps =>
      obtain ⟨ks, hk⟩ := t p List.mem_cons_self
      have := f p List.mem_cons_self
      rw [hk] at this
      cases this
    | nil =>
      cases r
      refine ⟨[], .nil, fun P => ⟨o, es, ep, e, c, d, ?_⟩⟩
      have : es = #[] := by
        rw [List.map_nil] at hes
        exact Array.toList_eq_nil_iff.mp hes
      subst this
      exact ⟨fun x hx => by simp at hx, .nil, List.nodup_nil⟩
end
section
variable {X : Cx} {pins : List (Addr × Obj)} {σ : L2.St} {r : Lv} {H : Hp} {s : Shared} {a : Addr} {ps : List (NestedKey × Addr × V)} {qs : List (NK × PyData)}
/-- a dict there, perhaps locked -/
def HasD (H : Hp) (a : Addr) (w : World) (ps : List (NestedKey × Addr × V)) : Prop := H a = some (HoD w a ps) ∨ ∃ od, H a = some (.frz od (HoD w a ps))
theorem dform_at (I : Inv X pins σ H s) (e : HasD H a X.w ps) : DForm X.w a ps s.heap := by
  rcases e with e | ⟨od, e⟩
  · exact (show ObjOk X.prog X.w H s.heap a (HoD X.w a ps) from I.hok a _ e).1
  · exact (show s.heap.get? a = some od ∧ ObjOk X.prog X.w H s.heap a (HoD X.w a ps) from I.hok a _ e).2.1
theorem ktn_is (I : Inv X pins σ H s) (q : RpKV X.K r H ps qs) (t : ∀ p ∈ ps, isTupK p.1 = true) : ∀ {xs : List (NestedKey × Addr × Value)}, KTn ps xs → ∀ x ∈ xs, (nestedKind X.prog X.w).is s.heap x.1 x.2.1 := by
  induction q with
  | nil => intro xs h x hx; cases h; cases hx
  | @cons k b v d ps qs h1 h2 _ ih =>
    intro xs h x hx
    cases h with
    | @cons _ y _ ys hy hys =>
      rcases List.mem_cons.mp hx with e | hx
      · subst e
        have hk := t _ List.mem_cons_self
        cases k with
        | tup ks =>
          obtain ⟨g1, g2⟩ := h1.2 ks rfl
          have e1 : (NK.tup ks).toN = x.1 := hy.1
          have e2 : b = x.2.1 := hy.2.1
          rw [← e1, ← e2]
          exact ⟨nested_of I g1 (show RelV (.ref b) (.ref b) from rfl), g2⟩
        | none => cases hk
        | num _ => cases hk
        | bool _ => cases hk
        | text _ => cases hk
      · exact ih (fun p hp => t p (List.mem_cons_of_mem _ hp)) hys x hx
theorem dform_tup (I : Inv X pins σ H s) (e : HasD H a X.w ps) (q : RpKV X.K r H ps qs) (t : ∀ p ∈ ps, isTupK p.1 = true) : ∃ xs, KTn ps xs ∧ s.heap.DictOfH (nestedKind X.prog X.w) a xs := by
  obtain ⟨z, y, ⟨vs, rr, d⟩ | ⟨_, xs, rr, o, es, ep, e1, c, d, hes, nd⟩⟩ := dform_at I e
  · cases rr with
    | cons h1 _ =>
      have := t _ List.mem_cons_self
      rw [h1.1] at this
      rename_i b _ _ _
      obtain ⟨b1, b2⟩ := b
      rcases b1 with _ | (i | x) <;> cases this
    | nil =>
      obtain ⟨o, es, ep, e1, c, d, _, hp, _⟩ := d X.prog
      refine ⟨[], .nil, o, es, ep, e1, c, d, ?_, fun x hx => (nomatch hx), List.nodup_nil⟩
      cases hp' : es.toList with
      | nil => rfl
      | cons e es' => rw [hp'] at hp; cases hp
  · exact ⟨xs, rr, o, es, ep, e1, c, d, hes, ktn_is I q t rr, nd⟩
end

/-! ### what a dict holds -/
section
variable {K : PySem.W.Frag} {P : Program} {w : World} {ps : List (NestedKey × Addr × V)}
theorem KVn.val {vs : List (Option Key × Value)} (h : KVn ps vs) (j : Option Key) : RelO (lookV ps (nkeyV j)) (valueAt vs j) := by
  unfold KVn at h
  induction h with
  | nil => exact True.intro
  | @cons p q ps qs hh t ih =>
    unfold lookV valueAt at ih ⊢
    rw [List.find?_cons, List.find?_cons]
    by_cases e : q.1 = j
    · have e2 : p.1 = nkeyV j := by rw [hh.1, e]
      simp only [e, e2, decide_true]
      exact hh.2
    · have e2 : ¬ p.1 = nkeyV j := fun z => e (nkeyV_inj (hh.1.symm.trans z))
      simp only [e, e2, decide_false]
      exact ih
theorem KVn.any {vs : List (Option Key × Value)} (h : KVn ps vs) (j : Option Key) : (ps.any fun p => decide (p.1 = nkeyV j)) = (vs.any fun q => decide (q.1 = j)) := by
  unfold KVn at h
  induction h with
  | nil => rfl
  | @cons p q ps qs hh t ih =>
    rw [List.any_cons, List.any_cons, ih]
    congr 1
    by_cases e : q.1 = j
    · rw [decide_eq_true e, decide_eq_true (by rw [hh.1, e])]
    · rw [decide_eq_false e, decide_eq_false fun z => e (nkeyV_inj (hh.1.symm.trans z))]
theorem KVn.put {vs : List (Option Key × Value)} (h : KVn ps vs) (j : Option Key) {b : Addr} {v : V} {u : Value} (r : RelV v u) : KVn (putVV ps (nkeyV j) b v) (stored vs j u) := by
  unfold putVV stored
  rw [h.any j]
  split
  · have mp : ∀ {ps : List (NestedKey × Addr × V)} {vs : List (Option Key × Value)}, KVn ps vs → KVn (ps.map (fun p => if p.1 = nkeyV j then (p.1, p.2.1, v) else p)) (vs.map (fun q => if q.1 = j then (q.1, u) else q)) := by
      intro ps vs h
      unfold KVn at h
      induction h with
      | nil => exact .nil
      | @cons p q ps qs hh t ih =>
        rw [List.map_cons, List.map_cons]
        by_cases e : q.1 = j
        · rw [if_pos e, if_pos (by rw [hh.1, e])]
          exact .cons ⟨hh.1, r⟩ ih
        · rw [if_neg e, if_neg fun z => e (nkeyV_inj (hh.1.symm.trans z))]
          exact .cons hh ih
    exact mp h
  · exact Paired.snoc h ⟨rfl, r⟩
theorem KTn.val {xs : List (NestedKey × Addr × Value)} (h : KTn ps xs) (k : NestedKey) : RelO (lookV ps k) ((atKey xs k).map (·.2)) := by
  unfold KTn at h
  induction h with
  | nil => exact True.intro
  | @cons p q ps qs hh t ih =>
    unfold lookV atKey at ih ⊢
    rw [List.find?_cons, List.find?_cons]
    by_cases e : q.1 = k
    · have e2 : p.1 = k := by rw [hh.1, e]
      simp only [e, e2, decide_true]
      exact hh.2.2
    · have e2 : ¬ p.1 = k := fun z => e (hh.1.symm.trans z)
      simp only [e, e2, decide_false]
      exact ih
theorem KTn.any {xs : List (NestedKey × Addr × Value)} (h : KTn ps xs) (k : NestedKey) : (ps.any fun p => decide (p.1 = k)) = (atKey xs k).isSome := by
  unfold KTn at h
  induction h with
  | nil => rfl
  | @cons p q ps qs hh t ih =>
    unfold atKey at ih ⊢
    rw [List.any_cons, List.find?_cons]
    by_cases e : q.1 = k
    · have e2 : p.1 = k := by rw [hh.1, e]
      simp [e, e2]
    · have e2 : ¬ p.1 = k := fun z => e (hh.1.symm.trans z)
      simp only [e, e2, decide_false, Bool.false_or]
      exact ih
theorem KTn.put {xs : List (NestedKey × Addr × Value)} (h : KTn ps xs) (k : NestedKey) {b : Addr} {v : V} {u : Value} (r : RelV v u) : KTn (putVV ps k b v) (storedH xs k b u) := by
  unfold putVV storedH
  rw [h.any k]
  split
  · have mp : ∀ {ps : List (NestedKey × Addr × V)} {xs : List (NestedKey × Addr × Value)}, KTn ps xs → KTn (ps.map (fun p => if p.1 = k then (p.1, p.2.1, v) else p)) (xs.map (PySem.putAt k u)) := by
      intro ps xs h
      unfold KTn at h
      induction h with
      | nil => exact .nil
      | @cons p q ps qs hh t ih =>
        rw [List.map_cons, List.map_cons]
        unfold PySem.putAt
        by_cases e : q.1 = k
        · rw [if_pos e, if_pos (by rw [hh.1, e])]
          exact .cons ⟨hh.1, hh.2.1, r⟩ ih
        · rw [if_neg e, if_neg fun z => e (hh.1.symm.trans z)]
          exact .cons hh ih
    exact mp h
  · exact Paired.snoc h ⟨rfl, rfl, r⟩
theorem RelO.isSome {v : Option V} {u : Option Value} (h : RelO v u) : v.isSome = u.isSome := RelO.isSome_eq h
end
theorem dictOf_P {P P' : Program} {w : World} {h : Heap} {a : Addr} {vs : List (Option Key × Value)} (d : h.DictOf (noneKind P w) a vs) : h.DictOf (noneKind P' w) a vs := by
  obtain ⟨o, es, ep, g1, g2, g3, g4, g5, g6⟩ := d
  refine ⟨o, es, ep, g1, g2, g3, fun e he => g4 e he, ?_, g6⟩
  have pr : ∀ {es : List DictEntry} {vs : List (Option Key × Value)}, Pairs (noneKind P w) es vs → Pairs (noneKind P' w) es vs := by
    intro es vs h
    induction h with
    | nil => exact .nil
    | cons a b _ ih => exact .cons a b ih
  exact pr g5
/-- a key there, of the dict's flavour -/
structure KeyAt (X : Cx) (r : Lv) (H : Hp) (x : V) (a : Addr) (ps : List (NestedKey × Addr × V)) (qs : List (NK × PyData)) (k : NK) : Prop where
  at_ : HasD H a X.w ps
  kv : RpKV X.K r H ps qs
  key : ∃ d, Rp X.K r H x d ∧ keyN d = some k
  nb : k.isBool = false
  depth : k.toN.depth ≤ 8
  fl : flav k qs = true
section
variable {X : Cx} {pins : List (Addr × Obj)} {σ : L2.St} {r : Lv} {H : Hp} {s : Shared} {a : Addr} {ps : List (NestedKey × Addr × V)} {qs : List (NK × PyData)} {x : V} {u : Value} {k : NK} {A : Around} {E : Value → Shared → Prop}
/-- of which flavour -/
theorem KeyAt.cases (c : KeyAt X r H x a ps qs k) (I : Inv X pins σ H s) (ru : RelV x u) :
    (∃ j vs, k.toN = nkeyV j ∧ (noneKind X.prog X.w).is j u = true ∧ KVn ps vs ∧ (∀ P : Program, s.heap.DictOf (noneKind P X.w) a vs)) ∨
    (∃ b ks xs, x = .ref b ∧ u = .ref b ∧ k = .tup ks ∧ Rp X.K r H (.ref b) k.data ∧ (nestedKind X.prog X.w).is s.heap k.toN b ∧ KTn ps xs ∧ s.heap.DictOfH (nestedKind X.prog X.w) a xs) := by
  obtain ⟨d, q, e⟩ := c.key
  have fl := c.kv.flav_t c.fl
  cases ht : k.isTup with
  | false =>
    obtain ⟨j, hj⟩ := nkeyV_of ((isTup_toN k).trans ht)
    obtain ⟨vs, h1, h2⟩ := dform_val (dform_at I c.at_) fun p hp => by rw [fl p hp, ht]
    exact .inl ⟨j, vs, hj, nkeyV_is hj c.nb e q ru, h1, h2⟩
  | true =>
    have q' := q
    rw [← keyN_data e] at q'
    obtain ⟨xs, h1, h2⟩ := dform_tup I c.at_ c.kv fun p hp => by rw [fl p hp, ht]
    cases k with
    | none => cases ht
    | num _ => cases ht
    | bool _ => cases ht
    | text _ => cases ht
    | tup ks =>
      have q2 := q'
      rw [NK.data] at q2
      cases q2 with
      | tup g1 g2 =>
        cases ru
        exact .inr ⟨_, ks, xs, rfl, rfl, rfl, q', ⟨nested_of I q' rfl, c.depth⟩, h1, h2⟩
theorem KeyAt.sys (c : KeyAt X r H x a ps qs k) (I : Inv X pins σ H s) : (a == sysModules) = false := (dform_at I c.at_).2.1
theorem KeyAt.typeIs (c : KeyAt X r H x a ps qs k) (I : Inv X pins σ H s) : s.TypeIs (.ref a) "dict" := by
  obtain ⟨_, _, ⟨vs, _, d⟩ | ⟨_, xs, _, o, es, ep, e, c, _⟩⟩ := dform_at I c.at_
  · exact (d X.prog).typeIs
  · exact ⟨o, e, c.1⟩
variable (hu : A.units + 64 < cLine)
include hu
theorem kd_in {Q : Value → Shared → Prop} (I : Inv X pins σ H s) (c : KeyAt X r H x a ps qs k) (ru : RelV x u) (h : ∀ s', Inv X pins σ H s' → Q (.bool (lookK qs k).isSome) s') : wpAny (model X.prog X.w) A (compareOp .In u (.ref a)) Q E s := by
  rcases c.cases I ru with ⟨j, vs, e, hk, kv, dd⟩ | ⟨b, ks, xs, e1, e2, e3, q, hk, kt, dd⟩
  · refine wpAny_in_of hk (c.sys I) (dd X.prog).mapOf ?_
    rw [← (kv.val j).isSome_eq, ← e, c.kv.isSome]
    exact h _ (I.tok _)
  · subst e2
    refine wpAny_in_heap (show A.in1.units + 8 < cLine by show A.units + 1 + 8 < cLine; omega) hk (c.sys I) dd ?_
    have z := (kt.val k.toN).isSome_eq
    rw [Option.isSome_map] at z
    rw [← z, c.kv.isSome]
    exact h _ (I.tok _)
theorem kd_notIn {Q : Value → Shared → Prop} (I : Inv X pins σ H s) (c : KeyAt X r H x a ps qs k) (ru : RelV x u) (h : ∀ s', Inv X pins σ H s' → Q (.bool (!(lookK qs k).isSome)) s') : wpAny (model X.prog X.w) A (compareOp .NotIn u (.ref a)) Q E s := by
  rcases c.cases I ru with ⟨j, vs, e, hk, kv, dd⟩ | ⟨b, ks, xs, e1, e2, e3, q, hk, kt, dd⟩
  · refine wpAny_notIn_of hk (c.sys I) (dd X.prog).mapOf ?_
    rw [← (kv.val j).isSome_eq, ← e, c.kv.isSome]
    exact h _ (I.tok _)
  · subst e2
    refine wpAny_notIn_heap (show A.in1.units + 8 < cLine by show A.units + 1 + 8 < cLine; omega) hk (c.sys I) dd ?_
    have z := (kt.val k.toN).isSome_eq
    rw [Option.isSome_map] at z
    rw [← z, c.kv.isSome]
    exact h _ (I.tok _)
theorem kd_get {Q : Value → Shared → Prop} {d : PyData} (I : Inv X pins σ H s) (c : KeyAt X r H x a ps qs k) (ru : RelV x u) (hd : lookK qs k = some d) (h : ∀ v w' s', Inv X pins σ H s' → RelV v w' → Rp X.K r H v d → Q w' s') : wpAny (model X.prog X.w) A (getItem (.ref a) u) Q E s := by
  obtain ⟨v, d', hv, hd', qv⟩ : ∃ v d', lookV ps k.toN = some v ∧ lookK qs k = some d' ∧ Rp X.K r H v d' := by
    rcases c.kv.look k with ⟨_, z⟩ | z
    · rw [hd] at z; cases z
    · exact z
  rw [hd] at hd'
  cases hd'
  rcases c.cases I ru with ⟨j, vs, e, hk, kv, dd⟩ | ⟨b, ks, xs, e1, e2, e3, q, hk, kt, dd⟩
  · obtain ⟨w', hw, rw'⟩ := RelO.some_of (v := v) (o := valueAt vs j) (by rw [← hv, e]; exact kv.val j)
    exact wpAny_getItem_of hk (dd X.prog).mapOf hw (h v w' _ (I.tok _) rw' qv)
  · subst e2
    obtain ⟨w', hw, rw'⟩ := RelO.some_of (v := v) (o := (atKey xs k.toN).map (·.2)) (by rw [← hv]; exact kt.val k.toN)
    obtain ⟨p, hp, hp2⟩ := Option.map_eq_some_iff.mp hw
    refine wpAny_getItem_heap (show A.in1.units + 8 < cLine by show A.units + 1 + 8 < cLine; omega) hk dd hp ?_
    rw [hp2]
    exact h v w' _ (I.tok _) rw' qv
/-- the key's own tuple -/
theorem kd_set {Q : Unit → Shared → Prop} {v : V} {z : Value} (I : Inv X pins σ H s) (c : KeyAt X r H x a ps qs k) (ru : RelV x u) (rz : RelV v z) (hw : H a = some (HoD X.w a ps)) (hl : ps.length < sizeLine)
    (h : ∀ b s', (∀ ks, k = .tup ks → Rp X.K r H (.ref b) k.data ∧ k.toN.depth ≤ 8) → Inv X pins σ (upd H a (HoD X.w a (putVV ps k.toN b v))) s' → Q () s') : wpAny (model X.prog X.w) A (setItem (.ref a) u z) Q E s := by
  have len : ∀ b, (putVV ps k.toN b v).length ≤ sizeLine := fun b => by
    unfold putVV
    split
    · rw [List.length_map]; omega
    · rw [List.length_append]; exact Nat.succ_le_of_lt hl
  have wr : ∀ {h' : Heap} {t' : Nat} {b : Addr}, Heap.SameBut a s.heap h' → DForm X.w a (putVV ps k.toN b v) h' → Inv X pins σ (upd H a (HoD X.w a (putVV ps k.toN b v))) { s with heap := h', toks := t' } := fun {h' t' b} hs df => by
    obtain ⟨o, _, _, e, _⟩ := df.obj
    exact d_write I (by rw [hw]; exact True.intro) hs ⟨o, e⟩ (hoD_ok df)
  rcases c.cases I ru with ⟨j, vs, e, hk, kv, dd⟩ | ⟨b, ks, xs, e1, e2, e3, q, hk, kt, dd⟩
  · have hz : vs.length ≤ sizeLine := by rw [← Paired.length kv]; omega
    refine wpAny_setItem_pairs (hsz := hz) hk (dd X.prog) fun h' dd' hs => h 0 _ (fun ks ek => ?_) (wr hs ⟨len 0, c.sys I, .inl ⟨stored vs j z, ?_, fun P => dictOf_P dd'⟩⟩)
    · rw [ek] at e; exact absurd e.symm nkeyV_tup
    · rw [e]; exact kv.put j rz
  · subst e2
    have hz : xs.length ≤ sizeLine := by rw [← Paired.length kt]; omega
    refine wpAny_setItem_heap (hsz := hz) (show A.in1.units + 8 < cLine by show A.units + 1 + 8 < cLine; omega) hk dd fun h' dd' hs => h b _ (fun ks ek => ⟨q, c.depth⟩) (wr hs ⟨len b, c.sys I, .inr ⟨?_, storedH xs k.toN b z, kt.put k.toN rz, ?_⟩⟩)
    · have ft := c.kv.flav_t c.fl
      intro p hp
      have : isTupK p.1 = true := by
        have e9 : k.isTup = true := by rw [e3]; rfl
        unfold putVV at hp
        split at hp
        · obtain ⟨p0, hp0, rfl⟩ := List.mem_map.mp hp
          split
          · rename_i e0
            show isTupK p0.1 = true
            rw [e0, isTup_toN]; exact e9
          · rw [ft p0 hp0]; exact e9
        · rcases List.mem_append.mp hp with hp | hp
          · rw [ft p hp]; exact e9
          · have : p = (k.toN, b, v) := by simpa using hp
            rw [this]; exact (isTup_toN k).trans e9
      cases hq : p.1 with
      | tup ks => exact ⟨ks, rfl⟩
      | none => rw [hq] at this; cases this
      | num _ => rw [hq] at this; cases this
      | text _ => rw [hq] at this; cases this
    · obtain ⟨o, es, ep, g1, g2, g3, g4, _, g5⟩ := dd'
      exact ⟨o, es, ep, g1, g2, g3, g4, g5⟩
end
end DD
/-! part DF -/
set_option Elab.async false
set_option linter.all false
set_option maxRecDepth 100000
set_option maxHeartbeats 4000000
namespace DD
open PySem PySem.Spec PyProof.Rows L2 LamX

/-! ### a dict's place -/
def dictAt : Vl → M (Nat × List (NK × PyData))
  | .m n => fun S => match S[n]? with
    | some (.k kvs) => some (.ok (n, kvs), S)
    | some (.z kvs) => some (.ok (n, kvs), S)
    | _ => none
  | _ => M.fail
/-- .. to be changed: not locked -/
def dictAtK : Vl → M (Nat × List (NK × PyData))
  | .m n => fun S => match S[n]? with
    | some (.k kvs) => some (.ok (n, kvs), S)
    | _ => none
  | _ => M.fail
/-- a key for it -/
def keyFor (kvs : List (NK × PyData)) (w : Vl) : Option NK := match datOf w with
  | some d => match keyN d with
    | some k => if decide (k.toN.depth ≤ 8) && (flav k kvs && !k.isBool) then some k else none
    | none => none
  | none => none
section
variable {α β : Type} {X : Cx} {c : Cf} {W : WX} {r r1 : Lv} {σ : L2.St} {H H1 : Hp} {S S1 : Sto} {ev : Ev}
theorem dictAt_run {R : Lv → Hp → β → α → Prop} {g : Nat × List (NK × PyData) → M α} {w : Vl} {v : V} {Q : β → Hp → Prop} (h : tRun X c W R r σ H S (dictAt w >>= g) Q) (s : StoRel (wg X) X.K r H S) (q : Rw X.K X.mg r H v w) :
    ∃ n a kvs ps, r.st[n]? = some a ∧ v = .ref a ∧ HasD H a X.w ps ∧ RpKV X.K r H ps kvs ∧ w = .m n ∧ tRun X c W R r σ H S (g (n, kvs)) Q := by
  cases w with
  | d x => obtain ⟨_, _, e, _⟩ := h; cases e
  | f x => obtain ⟨_, _, e, _⟩ := h; cases e
  | r lo hi => obtain ⟨_, _, e, _⟩ := h; cases e
  | p a b => obtain ⟨_, _, e, _⟩ := h; cases e
  | m n =>
    obtain ⟨a, h1, rfl⟩ := q
    obtain ⟨o, S', e, h⟩ := h
    rw [M.bind_run] at e
    have e2 : dictAt (.m n) S = match S[n]? with
      | some (.k kvs) => some (.ok (n, kvs), S)
      | some (.z kvs) => some (.ok (n, kvs), S)
      | _ => none := rfl
    cases q : S[n]? with
    | none => rw [e2, q] at e; cases e
    | some u =>
      cases u with
      | l xs => rw [e2, q] at e; cases e
      | q xs => rw [e2, q] at e; cases e
      | w xs => rw [e2, q] at e; cases e
      | o c xs => rw [e2, q] at e; cases e
      | k kvs =>
        rw [e2, q] at e
        obtain ⟨ps, h2, h3⟩ := s.ob n a _ h1 q
        exact ⟨n, a, kvs, ps, h1, rfl, .inl h2, h3, rfl, o, S', e, h⟩
      | z kvs =>
        rw [e2, q] at e
        obtain ⟨ps, od, h2, h3⟩ := s.ob n a _ h1 q
        exact ⟨n, a, kvs, ps, h1, rfl, .inr ⟨od, h2⟩, h3, rfl, o, S', e, h⟩
theorem dictAtK_run {R : Lv → Hp → β → α → Prop} {g : Nat × List (NK × PyData) → M α} {w : Vl} {v : V} {Q : β → Hp → Prop} (h : tRun X c W R r σ H S (dictAtK w >>= g) Q) (s : StoRel (wg X) X.K r H S) (q : Rw X.K X.mg r H v w) :
    ∃ n a kvs ps, r.st[n]? = some a ∧ v = .ref a ∧ S[n]? = some (.k kvs) ∧ H a = some (HoD X.w a ps) ∧ RpKV X.K r H ps kvs ∧ w = .m n ∧ tRun X c W R r σ H S (g (n, kvs)) Q := by
  cases w with
  | d x => obtain ⟨_, _, e, _⟩ := h; cases e
  | f x => obtain ⟨_, _, e, _⟩ := h; cases e
  | r lo hi => obtain ⟨_, _, e, _⟩ := h; cases e
  | p a b => obtain ⟨_, _, e, _⟩ := h; cases e
  | m n =>
    obtain ⟨a, h1, rfl⟩ := q
    obtain ⟨o, S', e, h⟩ := h
    rw [M.bind_run] at e
    have e2 : dictAtK (.m n) S = match S[n]? with
      | some (.k kvs) => some (.ok (n, kvs), S)
      | _ => none := rfl
    cases q : S[n]? with
    | none => rw [e2, q] at e; cases e
    | some u =>
      cases u with
      | l xs => rw [e2, q] at e; cases e
      | q xs => rw [e2, q] at e; cases e
      | w xs => rw [e2, q] at e; cases e
      | o c xs => rw [e2, q] at e; cases e
      | z xs => rw [e2, q] at e; cases e
      | k kvs =>
        rw [e2, q] at e
        obtain ⟨ps, h2, h3⟩ := s.ob n a _ h1 q
        exact ⟨n, a, kvs, ps, h1, rfl, q, h2, h3, rfl, o, S', e, h⟩
theorem keyFor_at {K : PySem.W.Frag} {mg : Str → Option Value} {x : V} {w : Vl} {a : Addr} {ps : List (NestedKey × Addr × V)} {kvs : List (NK × PyData)} {k : NK} (e : keyFor kvs w = some k) (q : Rw X.K mg r H x w) (h1 : HasD H a X.w ps) (h2 : RpKV X.K r H ps kvs) : KeyAt X r H x a ps kvs k := by
  unfold keyFor at e
  cases ed : datOf w with
  | none => rw [ed] at e; cases e
  | some d =>
    rw [ed] at e
    simp only at e
    cases ek : keyN d with
    | none => rw [ek] at e; cases e
    | some j =>
      rw [ek] at e
      simp only at e
      split at e
      · rename_i hb
        cases e
        rw [Bool.and_eq_true, Bool.and_eq_true, decide_eq_true_eq] at hb
        exact ⟨h1, h2, ⟨d, datOf_ok q ed, ek⟩, by simpa using hb.2.2, hb.1, hb.2.1⟩
      · cases e
end

/-! ### k in d, d[k], d.get(k, x), d[k] = v -/
def fDIn (neg : Bool) (fe fd : Ev → M Vl) : Ev → M Vl := fun ev => do
  let x ← fe ev
  let y ← fd ev
  let p ← dictAt y
  let k ← M.lift (keyFor p.2 x)
  pure (.d (.bool (if neg then !(lookK p.2 k).isSome else (lookK p.2 k).isSome)))
def fDGet (fd fe : Ev → M Vl) : Ev → M Vl := fun ev => do
  let y ← fd ev
  let x ← fe ev
  let p ← dictAt y
  let k ← M.lift (keyFor p.2 x)
  let z ← M.lift (lookK p.2 k)
  pure (.d z)
def fDGet2 (fd fe fz : Ev → M Vl) : Ev → M Vl := fun ev => do
  let y ← fd ev
  let _ ← dictAt y
  let x ← fe ev
  let z ← fz ev
  let p ← dictAt y
  let k ← M.lift (keyFor p.2 x)
  match lookK p.2 k with
  | some d => pure (.d d)
  | none => pure z
def putDict (n : Nat) (kvs : List (NK × PyData)) : M Vl := fun S => some (.ok (.d .none), S.set n (.k kvs))
def fDSet (fv fd fe : Ev → M Vl) : Ev → M Vl := fun ev => do
  let v ← fv ev
  let z ← M.lift (datOf v)
  let y ← fd ev
  let x ← fe ev
  let p ← dictAtK y
  let k ← M.lift (keyFor p.2 x)
  if p.2.length < 1000000 then putDict p.1 (putKV p.2 k z) else M.fail
section
variable {X : Cx} {c : Cf} {W : WX} {e a b o i : Expr} {f g h fe fd fz : Ev → M Vl} {pos tpos : Pos}
def rDIn (X : Cx) (neg : Bool) : R2 := fun x y H Q => ∃ r a ps kvs k, y = .ref a ∧ KeyAt X r H x a ps kvs k ∧ Q (.bl (if neg then !(lookK kvs k).isSome else (lookK kvs k).isSome)) H
theorem op_dIn (hu : X.A.units + 64 < cLine) (neg : Bool) : OpR X (compareOp (if neg then .NotIn else .In)) (rDIn X neg) := by
  intro pins s σ H x y v u Q I rx ry h
  obtain ⟨r, a, ps, kvs, k, rfl, ka, q⟩ := h
  cases ry
  cases neg with
  | false => exact kd_in hu I ka rx fun s' I' => ⟨.bl _, H, I', rfl, q⟩
  | true => exact kd_notIn hu I ka rx fun s' I' => ⟨.bl _, H, I', rfl, q⟩
theorem dIn_weak {neg : Bool} {σ : L2.St} {H : Hp} {Q : VK} (hh : tE X c W (fDIn neg f g) σ H Q) : tOp (rDIn X neg) (tE X c W f) (tE X c W g) σ H Q := by
  obtain ⟨r, ev, S, x, hh⟩ := hh
  refine tX.of x hh.bind fun v H1 ⟨r1, S1, w, e1, s1, t1, q1, h1⟩ => ?_
  have x1 := x.ext e1 s1 t1
  refine tX.of x1 h1.bind fun u H2 ⟨r2, S2, y, e2, s2, t2, q2, h2⟩ => ?_
  obtain ⟨n, a, kvs, ps, g1, rfl, g3, g4, rfl, h3⟩ := dictAt_run h2 s2 q2
  obtain ⟨k, ek, h4⟩ := lift_run h3
  exact ⟨r2, a, ps, kvs, k, rfl, keyFor_at (K := X.K) ek (q1.ext e2) g3 g4, h4.pure rfl s2 t2 (.bl _)⟩
theorem qe_dIn (neg : Bool) (hu : X.A.units + 64 < cLine) (ha : QE X c W a f) (hb : QE X c W b g) (hm : behindInMarks (if neg then .NotIn else .In) b = false := by first | exact nomark _ (by decide) (by decide) | with_unfolding_all rfl) :
    QE X c W (.Compare a [if neg then .NotIn else .In] [b] pos) (fDIn neg f g) := pe_weak (pe_cmpR (op_dIn hu neg) ha hb hm) fun σ H Q h => dIn_weak h
theorem qt_dIn (neg : Bool) (hu : X.A.units + 64 < cLine) (ha : QE X c W a f) (hb : QE X c W b g) (hm : behindInMarks (if neg then .NotIn else .In) b = false := by first | exact nomark _ (by decide) (by decide) | with_unfolding_all rfl) :
    QT X c W (.Compare a [if neg then .NotIn else .In] [b] pos) (fB (fDIn neg f g)) := pt_weak (pt_cmpR (op_dIn hu neg) ha hb hm) fun σ H Q h => dIn_weak (fB_of h)
def rDGet (X : Cx) : R2 := fun x y H Q => ∃ r a ps kvs k d, x = .ref a ∧ KeyAt X r H y a ps kvs k ∧ lookK kvs k = some d ∧ ∀ v, Rp X.K r H v d → Q v H
theorem ix_dGet (hu : X.A.units + 64 < cLine) : IxR X (rDGet X) := by
  intro value slice pins s σ H x y v u Q I rx ry h hs
  obtain ⟨r, a, ps, kvs, k, d, rfl, ka, ed, q⟩ := h
  cases rx
  exact tail_any (ka.typeIs I) slot_dict_getitem.lookup (kd_get hu I ka ry ed fun v w' s' I' rw' qv => ⟨v, H, I', rw', q v qv⟩) hs
theorem qe_dGet (hu : X.A.units + 64 < cLine) (ha : QE X c W a f) (hb : QE X c W b g) (hs : PlainIx b := by exact fun _ _ => rfl) : QE X c W (.Subscript a b pos) (fDGet f g) :=
  pe_weak (pe_ix (ix_dGet hu) ha hb hs) fun σ H Q hh => by
    obtain ⟨r, ev, S, x, hh⟩ := hh
    refine tX.of x hh.bind fun v H1 ⟨r1, S1, w, e1, s1, t1, q1, h1⟩ => ?_
    have x1 := x.ext e1 s1 t1
    refine tX.of x1 h1.bind fun u H2 ⟨r2, S2, y, e2, s2, t2, q2, h2⟩ => ?_
    obtain ⟨n, a, kvs, ps, g1, rfl, g3, g4, rfl, h3⟩ := dictAt_run h2 s2 (q1.ext e2)
    obtain ⟨k, ek, h4⟩ := lift_run h3
    obtain ⟨d, ed, h5⟩ := lift_run h4
    exact ⟨r2, a, ps, kvs, k, d, rfl, keyFor_at (K := X.K) ek q2 g3 g4, ed, fun v qv => h5.pure rfl s2 t2 qv⟩
def rSetD (X : Cx) : TSet := fun x y v H Q => ∃ r a ps kvs k, x = .ref a ∧ KeyAt X r H y a ps kvs k ∧ H a = some (HoD X.w a ps) ∧ ps.length < sizeLine ∧ ∀ b, (∀ ks, k = .tup ks → Rp X.K r H (.ref b) k.data ∧ k.toN.depth ≤ 8) → Q (upd H a (HoD X.w a (putVV ps k.toN b v)))
theorem set_dict (hu : X.A.units + 64 < cLine) : PSet X (rSetD X) := by
  intro pins s σ H x y v ov iv u Q I ro ri rv h
  obtain ⟨r, a, ps, kvs, k, rfl, ka, hw, hl, q⟩ := h
  cases ro
  exact kd_set hu I ka ri rv hw hl fun b s' hb I' => ⟨_, I', q b hb⟩
theorem qs_dSet {tpos : Pos} (hu : X.A.units + 64 < cLine) (hv : QE X c W e f) (ho : QE X c W o g) (hi : QE X c W i h)
    (ha : ∀ v, assign (.Subscript o i tpos) X.env v = (do
      let ov ← holding [v] (eval o X.env)
      let iv ← holding [v, ov] (eval i X.env)
      standAt tpos
      holding [v, ov, iv] (setItem ov iv v)
      release [v, ov, iv] []) := by intro _; rfl)
    (hs : swapsWithSole [.Subscript o i tpos] e pos.line X.env = pure false := by rfl) (hw : swappedStores [.Subscript o i tpos] e X.env = pure none := by rfl)
    (h1 : (assignEach [.Subscript o i tpos] X.env).map (·.2) = [assign (.Subscript o i tpos) X.env] := by rfl) : QS X c W (.Assign [.Subscript o i tpos] e pos) (sExpr (fDSet f g h)) := by
  refine ps_weak (ps_asg hv (pg_sub ho hi (set_dict hu) ha) hs hw h1) fun D σ H ⟨r, ev, S, x, hh⟩ => ?_
  have hh := hh.onE (R := Rw X.K X.mg) x
  refine tX.of x hh.bind fun v H1 ⟨r1, S1, w, e1, s1, t1, q1, h1⟩ => ?_
  have x1 := x.ext e1 s1 t1
  obtain ⟨z, ez, h2⟩ := lift_run h1
  refine tX.of x1 h2.bind fun ov H2 ⟨r2, S2, y, e2, s2, t2, q2, h3⟩ => ?_
  have x2 := x1.ext e2 s2 t2
  refine tX.of x2 h3.bind fun iv H3 ⟨r3, S3, k0, e3, s3, t3, q3, h4⟩ => ?_
  obtain ⟨n, a, kvs, ps, g1, rfl, g2, g3, g4, rfl, h5⟩ := dictAtK_run h4 s3 (q2.ext e3)
  obtain ⟨k, ek, h6⟩ := lift_run h5
  dsimp only at h6
  split at h6
  · rename_i hz
    have ka := keyFor_at (K := X.K) ek q3 (.inl g3) g4
    refine ⟨r3, a, ps, kvs, k, rfl, ka, g3, by rw [g4.length, sizeLine_eq]; exact Nat.lt_of_lt_of_le hz (by omega), fun b hb => ?_⟩
    obtain ⟨o', S', e', h7⟩ := h6
    cases e'
    have E : Ext false r3 r3 H3 (upd H3 a (HoD X.w a (putVV ps k.toN b v))) := Ext.put s3.mu (List.mem_of_getElem? g1) (nofE g3)
    have st := s3.putO (o := HoD X.w a (putVV ps k.toN b v)) (m := .k (putKV kvs k z)) g1 (nofE g3) fun H' E' e' => ⟨_, e', RpKV.map (fun _ _ q => E'.sqf q) (fun _ _ q => E'.sqt q) (g4.put ka.nb hb (datOf_ok ((q1.ext e2).ext e3) ez))⟩
    obtain ⟨r', S', w', E9, x', _, q'⟩ := h7 r3 .non _ E.up st (tabs_ext E t3) (show Rp X.K _ _ _ _ from .non)
    exact q'.nx x'
  · exact (fail_run h6).elim
end
end DD
/-! part DG -/
set_option Elab.async false
set_option linter.all false
set_option maxRecDepth 100000
set_option maxHeartbeats 4000000
namespace DD
open PySem PySem.Spec PyProof.Rows L2 LamX

/-! ### d.get(k, x) -/
section
variable {X : Cx} {pins : List (Addr × Obj)} {σ : L2.St} {r : Lv} {H : Hp} {s : Shared} {a : Addr} {ps : List (NestedKey × Addr × V)} {qs : List (NK × PyData)} {x z : V} {u t : Value} {k : NK} {A : Around} {E : Value → Shared → Prop}
theorem hoD_type (I : Inv X pins σ H s) (e : HasD H a X.w ps) : s.TypeIs (.ref a) "dict" ∧ ∀ b, Value.ref a = .ref b → ∃ ob, s.heap.get? b = some ob ∧ ob.dict = none := by
  obtain ⟨_, _, ⟨vs, _, d⟩ | ⟨_, xs, _, o, es, ep, e, c, _⟩⟩ := dform_at I e
  · obtain ⟨o, _, _, e, c, _⟩ := d X.prog
    exact ⟨⟨o, e, c.1⟩, fun b q => by cases q; exact ⟨o, e, c.2.1⟩⟩
  · exact ⟨⟨o, e, c.1⟩, fun b q => by cases q; exact ⟨o, e, c.2.1⟩⟩
theorem kd_get2 (hu : A.units + 64 < cLine) {Q : Value → Shared → Prop} (I : Inv X pins σ H s) (c : KeyAt X r H x a ps qs k) (ru : RelV x u) (rt : RelV z t)
    (h1 : ∀ d v w' s', lookK qs k = some d → Inv X pins σ H s' → RelV v w' → Rp X.K r H v d → Q w' s') (h2 : ∀ s', lookK qs k = none → Inv X pins σ H s' → Q t s') : wpAny (model X.prog X.w) A (call (.builtin "dict.get") [.ref a, u, t]) Q E s := by
  have fin : ∀ {o : Option Value} {s' : Shared}, RelO (lookV ps k.toN) o → Inv X pins σ H s' → Q (o.getD t) s' := fun {o s'} ro I' => by
    rcases c.kv.look k with ⟨e1, e2⟩ | ⟨v, d, e1, e2, q⟩
    · rw [e1] at ro
      cases o with
      | none => exact h2 _ e2 I'
      | some w => exact ro.elim
    · rw [e1] at ro
      obtain ⟨w', hw, rw'⟩ := RelO.some_of ro
      subst hw
      exact h1 d v w' _ e2 I' rw' q
  rcases c.cases I ru with ⟨j, vs, e, hk, kv, dd⟩ | ⟨b, ks, xs, e1, e2, e3, q, hk, kt, dd⟩
  · exact call_meetsIn PySem.F.slot_dict_get (c.typeIs I) PySem.F.entry_dict_get (PySem.F.args_dict_get_3 _ _ _) (meets_dict_get_default (noneKind X.prog X.w) a hk (c.sys I) t) ⟨_, (dd X.prog).mapOf, fin (by rw [e]; exact kv.val j) (I.tok _)⟩
  · subst e2
    exact call_meetsIn PySem.F.slot_dict_get (c.typeIs I) PySem.F.entry_dict_get (PySem.F.args_dict_get_3 _ _ _) (meetsH_dict_get_default (nestedKind X.prog X.w) a b (c.sys I) t)
      ⟨show A.in1.units + 8 < cLine by show A.units + 1 + 8 < cLine; omega, k.toN, xs, hk, dd, fin (kt.val k.toN) (I.tok _)⟩
end
def tGet2 (X : Cx) (td ty tx : TE) : TE := fun σ H Q => td σ H fun x H1 => ∃ a ps, x = .ref a ∧ HasD H1 a X.w ps ∧ ty σ H1 fun y H2 => tx σ H2 fun z H3 => ∃ r ps kvs k, KeyAt X r H3 y a ps kvs k ∧ (∀ d v, lookK kvs k = some d → Rp X.K r H3 v d → Q v H3) ∧ (lookK kvs k = none → Q z H3)
section
variable {X : Cx} {c : Cf} {W : WX} {o e f : Expr} {apos cpos : Pos} {td ty tx : TE} {fd fe fz : Ev → M Vl}
theorem pe_get2 (hu : X.A.units + 64 < cLine) (ho : PE X o td) (he : PE X e ty) (hf : PE X f tx) (m : M2 X o "get" apos e f cpos) : PE X (.Call (.Attribute o "get" apos) [e, f] [] cpos) (tGet2 X td ty tx) := by
  refine ⟨fun pins s σ H Q I h => wpAny_Call_method m.base m.few m.line PySem.F.plainAttrs_dict PySem.F.slot_dict_get PySem.F.type_dict_get (thn (ho.run pins s σ H _ I h) fun u s1 ⟨x, H1, I1, rx, a, ps, ex, hd, q1⟩ => ?_)⟩
  subst ex
  cases rx
  obtain ⟨t1, t2⟩ := hoD_type I1 hd
  refine ⟨t1, t2, ?_⟩
  rw [m.trees]
  exact Calls.callWith_builtin rfl (Calls.evalArgs_plain (Calls.spliced_cons (thn (he.run pins s1 σ H1 _ I1 q1) fun iv s2 ⟨y, H2, I2, ry, q2⟩ =>
    Calls.spliced_cons (thn (hf.run pins s2 σ H2 _ I2 q2) fun fv s3 ⟨z, H3, I3, rz, r, ps', kvs, k, ka, g1, g2⟩ => Calls.spliced_nil
      (kd_get2 hu I3 ka ry rz (fun d v w' s' ed I' rw' qv => ⟨v, H3, I', rw', g1 d v ed qv⟩) fun s' ed I' => ⟨z, H3, I', rz, g2 ed⟩)))))
theorem qe_dGet2 (hu : X.A.units + 64 < cLine) (ho : QE X c W o fd) (he : QE X c W e fe) (hf : QE X c W f fz)
    (hbase : attributeBase o "get" X.env (eval o X.env) = eval o X.env := by rfl)
    (hfew : ((backTo cpos (starEach [e, f] X.env)).all (fun x => !x.1) && (backToKw cpos (keywordEach [] X.env)).all (fun x => x.1.isSome)
      && decide (([e, f] : List Expr).length + ([] : List Keyword).length + (if ([] : List Keyword).isEmpty then 0 else 1) < 30)) = true := by rfl)
    (hline : (apos.endLine == cpos.line) = true := by rfl) (htrees : backTo cpos (starEach [e, f] X.env) = [(false, eval e X.env), (false, eval f X.env)] := by rfl) :
    QE X c W (.Call (.Attribute o "get" apos) [e, f] [] cpos) (fDGet2 fd fe fz) := pe_weak (pe_get2 hu ho he hf ⟨hbase, hfew, hline, htrees⟩) fun σ H Q hh => by
  obtain ⟨r, ev, S, x, hh⟩ := hh
  refine tX.of x hh.bind fun v H1 ⟨r1, S1, w, e1, s1, t1, q1, h1⟩ => ?_
  have x1 := x.ext e1 s1 t1
  obtain ⟨n, a, kvs, ps, g1, rfl, g3, g4, rfl, h2⟩ := dictAt_run h1 s1 q1
  refine ⟨a, ps, rfl, g3, tX.of x1 h2.bind fun y H2 ⟨r2, S2, y', e2, s2, t2, q2, h3⟩ => ?_⟩
  have x2 := x1.ext e2 s2 t2
  refine tX.of x2 h3.bind fun z H3 ⟨r3, S3, z', e3, s3, t3, q3, h4⟩ => ?_
  obtain ⟨n', a', kvs', ps', g1', ea, g3', g4', en, h5⟩ := dictAt_run h4 s3 ((q1.ext e2).ext e3)
  cases ea
  obtain ⟨k, ek, h6⟩ := lift_run h5
  refine ⟨r3, ps', kvs', k, keyFor_at (K := X.K) ek (q2.ext e3) g3' g4', fun d v ed qv => ?_, fun ed => ?_⟩
  · dsimp only at h6
    rw [ed] at h6
    exact h6.pure rfl s3 t3 qv
  · dsimp only at h6
    rw [ed] at h6
    exact h6.pure rfl s3 t3 q3
end

/-! ### displays -/
def fPairs : List ((Ev → M Vl) × (Ev → M Vl)) → Ev → M (List (Vl × Vl))
  | [], _ => pure []
  | (f, g) :: r, ev => do
    let x ← f ev
    let y ← g ev
    let t ← fPairs r ev
    pure ((x, y) :: t)
/-- the pairs as a dict's: keys of one flavour -/
def asKV : List (Vl × Vl) → Option (List (NK × PyData))
  | [] => some []
  | (x, y) :: r => match datOf x, datOf y, asKV r with
    | some d, some z, some t => match keyN d with
      | some k => if decide (k.toN.depth ≤ 8) && (flav k t && !k.isBool) then some ((k, z) :: t) else none
      | none => none
    | _, _, _ => none
def mergeKV (kvs more : List (NK × PyData)) : List (NK × PyData) := more.foldl (fun acc p => putKV acc p.1 p.2) kvs
def M.newK (kvs : List (NK × PyData)) : M Vl := fun S => some (.ok (.m S.length), S ++ [.k kvs])
def fDisp (ps : List ((Ev → M Vl) × (Ev → M Vl))) : Ev → M Vl := fun ev => do
  let ws ← fPairs ps ev
  let kvs ← M.lift (asKV ws)
  if kvs.length ≤ 1000 then M.newK (mergeKV [] kvs) else M.fail
inductive RPr (K : PySem.W.Frag) (mg : Str → Option Value) (r : Lv) (H : Hp) : List (V × V) → List (Vl × Vl) → Prop
  | nil : RPr K mg r H [] []
  | cons {x y : V} {a b : Vl} {vs : List (V × V)} {ws : List (Vl × Vl)} : Rw K mg r H x a → Rw K mg r H y b → RPr K mg r H vs ws → RPr K mg r H ((x, y) :: vs) ((a, b) :: ws)
theorem pairs_run {X : Cx} {c : Cf} {W : WX} : ∀ (ps : List ((Ev → M Vl) × (Ev → M Vl))) {σ : L2.St} {H : Hp} {Q : List (V × V) → Hp → Prop}, tX X c W (RPr X.K X.mg) (fPairs ps) σ H Q → tPairs (ps.map fun p => (tE X c W p.1, tE X c W p.2)) σ H Q
  | [], σ, H, Q, h => by
    obtain ⟨r, ev, S, x, h⟩ := h
    exact h.pure rfl x.sto x.tabs .nil
  | (f, g) :: ps, σ, H, Q, h => by
    obtain ⟨r, ev, S, x, h⟩ := h
    refine tX.of x h.bind fun v H1 ⟨r1, S1, w, e1, s1, t1, q1, h1⟩ => ?_
    have x1 := x.ext e1 s1 t1
    refine tX.of x1 h1.bind fun u H2 ⟨r2, S2, y, e2, s2, t2, q2, h2⟩ => ?_
    have x2 := x1.ext e2 s2 t2
    exact pairs_run ps (tX.of x2 h2.bind fun vs H3 ⟨r3, S3, ws, e3, s3, t3, q3, h3⟩ => h3.pure rfl s3 t3 (.cons ((q1.ext e2).ext e3) (q2.ext e3) q3))
/-- a hidden dict joins the store -/
theorem Ext.join {lam : Bool} {r0 r : Lv} {H0 H : Hp} {D : Addr} {o : HO} (a : Ext lam r0 r H0 H) (hD : H0 D = none) : Ext lam r0 ⟨r.st ++ [D], r.hid⟩ H0 (upd H D o) := by
  have f := a.fresh (o := o) hD
  refine ⟨?_, f.keep, f.dom, f.mu, f.lock⟩
  obtain ⟨n, rfl, hn⟩ := f.pre
  refine ⟨n ++ [D], by rw [List.append_assoc], fun x hx => ?_⟩
  rcases List.mem_append.mp hx with hx | hx
  · exact hn x hx
  · have : x = D := by simpa using hx
    rw [this]; exact .inl hD
theorem sqf_upd {K : PySem.W.Frag} {r : Lv} {H : Hp} {D a : Addr} {o : HO} {φ : Heap → Prop} {xs : List V} (hD : H D = some (.ext φ)) (h : SqF K r H a xs) : SqF K ⟨r.st ++ [D], r.hid⟩ (upd H D o) a xs := by
  rcases h with ⟨h, hn⟩ | ⟨o', h⟩ | h
  · have ne : a ≠ D := fun e => by rw [e, hD] at h; cases h
    refine .inl ⟨by rw [upd_ne ne]; exact h, fun hm => ?_, hn.2⟩
    rcases List.mem_append.mp hm with hm | hm
    · exact hn.1 hm
    · exact ne (by simpa using hm)
  · exact .inr (.inl ⟨o', by rw [upd_ne (fun e => by rw [e, hD] at h; cases h)]; exact h⟩)
  · exact .inr (.inr h)
theorem sqt_upd {K : PySem.W.Frag} {H : Hp} {D a : Addr} {o : HO} {φ : Heap → Prop} {xs : List V} (hD : H D = some (.ext φ)) (h : SqT K H a xs) : SqT K (upd H D o) a xs := by
  rcases h with (h | ⟨o', h⟩) | h
  · exact .inl (.inl (by rw [upd_ne (fun e => by rw [e, hD] at h; cases h)]; exact h))
  · exact .inl (.inr ⟨o', by rw [upd_ne (fun e => by rw [e, hD] at h; cases h)]; exact h⟩)
  · exact .inr h
theorem StoRel.join {wd : Wg} {K : PySem.W.Frag} {r : Lv} {H : Hp} {S : Sto} {D : Addr} {φ : Heap → Prop} {ps : List (NestedKey × Addr × V)} {kvs : List (NK × PyData)} (s : StoRel wd K r H S) (hD : H D = some (.ext φ)) (hn : r.no D) (q : RpKV K r H ps kvs) :
    StoRel wd K ⟨r.st ++ [D], r.hid⟩ (upd H D (HoD wd.w D ps)) (S ++ [.k kvs]) := by
  refine ⟨?_, by simp [s.len], fun n a m h1 h2 => ?_, fun a ha => ?_, fun a ha hm => ?_⟩
  · show (r.st ++ [D]).Nodup
    rw [List.nodup_append]
    refine ⟨s.nd, by simp, fun a ha b hb e => ?_⟩
    have hb' : b = D := by simpa using hb
    subst hb'; subst e
    exact hn.1 ha
  · have h1 : (r.st ++ [D])[n]? = some a := h1
    by_cases hlt : n < r.st.length
    · rw [List.getElem?_append_left hlt] at h1
      rw [List.getElem?_append_left (by rw [← s.len]; exact hlt)] at h2
      have ne : a ≠ D := fun e => hn.1 (e ▸ List.mem_of_getElem? h1)
      exact (s.ob n a m h1 h2).map (fun u e => by rw [upd_ne ne]; exact e) (fun _ _ q => sqf_upd hD q) (fun _ _ q => sqt_upd hD q) fun n a h => by
        show (r.st ++ [D])[n]? = some a
        rw [List.getElem?_append_left (List.getElem?_eq_some_iff.mp h).1]; exact h
    · have hn2 : n = r.st.length := by
        have := (List.getElem?_eq_some_iff.mp h1).1
        simp at this; omega
      subst hn2
      rw [List.getElem?_append_right (Nat.le_refl _)] at h1
      rw [s.len, List.getElem?_append_right (Nat.le_refl _)] at h2
      simp at h1 h2
      subst h1; subst h2
      exact ⟨ps, upd_same, RpKV.map (fun _ _ q => sqf_upd hD q) (fun _ _ q => sqt_upd hD q) q⟩
  · rw [upd_ne (fun (z : a = D) => hn.2 (z ▸ ha))]; exact s.hid a ha
  · have hm : a ∈ r.st ++ [D] := hm
    rcases List.mem_append.mp hm with hm | hm
    · exact s.apart a ha hm
    · have e : a = D := by simpa using hm
      exact hn.2 (e ▸ ha)

def mergeVV (acc more : List (NestedKey × Addr × V)) : List (NestedKey × Addr × V) := more.foldl (fun acc p => putVV acc p.1 p.2.1 p.2.2) acc
theorem mergeVV_len : ∀ (more acc : List (NestedKey × Addr × V)), (mergeVV acc more).length ≤ acc.length + more.length
  | [], acc => by show acc.length ≤ acc.length + 0; omega
  | p :: r, acc => by
    have h1 := mergeVV_len r (putVV acc p.1 p.2.1 p.2.2)
    have h2 : (putVV acc p.1 p.2.1 p.2.2).length ≤ acc.length + 1 := by
      unfold putVV
      split
      · rw [List.length_map]; omega
      · rw [List.length_append]; exact Nat.le_refl _
    show (mergeVV (putVV acc p.1 p.2.1 p.2.2) r).length ≤ _
    rw [List.length_cons]; omega
theorem RpKV.merge {K : PySem.W.Frag} {r : Lv} {H : Hp} {more : List (NestedKey × Addr × V)} {qs : List (NK × PyData)} (h : RpKV K r H more qs) : ∀ {acc : List (NestedKey × Addr × V)} {as : List (NK × PyData)}, RpKV K r H acc as → RpKV K r H (mergeVV acc more) (mergeKV as qs) := by
  induction h with
  | nil => intro acc as q; exact q
  | cons h1 h2 t ih => intro acc as q; exact ih (q.put h1.1 h1.2 h2)
theorem KVn.merge {more : List (NestedKey × Addr × V)} {rs : List (Option Key × Value)} (h : KVn more rs) : ∀ {acc : List (NestedKey × Addr × V)} {vs : List (Option Key × Value)}, KVn acc vs → KVn (mergeVV acc more) (merged vs rs) := by
  unfold KVn at h
  induction h with
  | nil => intro acc as q; exact q
  | @cons p q ps qs hh t ih =>
    intro acc vs z
    have e : KVn (putVV acc p.1 p.2.1 p.2.2) (stored vs q.1 q.2) := by rw [hh.1]; exact z.put q.1 hh.2
    exact ih e
theorem KTn.merge {more : List (NestedKey × Addr × V)} {xs : List (NestedKey × Addr × Value)} (h : KTn more xs) : ∀ {acc : List (NestedKey × Addr × V)} {vs : List (NestedKey × Addr × Value)}, KTn acc vs → KTn (mergeVV acc more) (storedAllH vs xs) := by
  unfold KTn at h
  induction h with
  | nil => intro acc as q; exact q
  | @cons p q ps qs hh t ih =>
    intro acc vs z
    have e : KTn (putVV acc p.1 p.2.1 p.2.2) (storedH vs q.1 q.2.1 q.2.2) := by rw [hh.1, hh.2.1]; exact z.put q.1 hh.2.2
    exact ih e
theorem mergeVV_tup {more : List (NestedKey × Addr × V)} (h : ∀ p ∈ more, isTupK p.1 = true) : ∀ {acc : List (NestedKey × Addr × V)}, (∀ p ∈ acc, isTupK p.1 = true) → ∀ p ∈ mergeVV acc more, isTupK p.1 = true := by
  induction more with
  | nil => intro acc q; exact q
  | cons x r ih =>
    intro acc q
    refine ih (fun p hp => h p (List.mem_cons_of_mem _ hp)) (acc := putVV acc x.1 x.2.1 x.2.2) ?_
    intro p hp
    unfold putVV at hp
    split at hp
    · obtain ⟨p0, hp0, rfl⟩ := List.mem_map.mp hp
      split
      · exact q p0 hp0
      · exact q p0 hp0
    · rcases List.mem_append.mp hp with hp | hp
      · exact q p hp
      · have : p = (x.1, x.2.1, x.2.2) := by simpa using hp
        rw [this]; exact h x List.mem_cons_self
/-- of which flavour the pairs' keys are -/
def allTup (kvs : List (NK × PyData)) : Bool := match kvs with
  | (k, _) :: _ => k.isTup
  | [] => false
section
variable {X : Cx} {pins : List (Addr × Obj)} {σ : L2.St} {r : Lv} {H : Hp} {s : Shared} {mg : Str → Option Value}
theorem asKV_cons {x y : Vl} {ws : List (Vl × Vl)} {kvs : List (NK × PyData)} (h : asKV ((x, y) :: ws) = some kvs) : ∃ d z t k, datOf x = some d ∧ datOf y = some z ∧ asKV ws = some t ∧ keyN d = some k ∧ k.toN.depth ≤ 8 ∧ (flav k t = true ∧ k.isBool = false) ∧ kvs = (k, z) :: t := by
  rw [asKV] at h
  split at h
  · rename_i d z t h1 h2 h3
    split at h
    · rename_i k hk
      split at h
      · rename_i hb
        cases h
        rw [Bool.and_eq_true, Bool.and_eq_true, decide_eq_true_eq] at hb
        exact ⟨d, z, t, k, h1, h2, h3, hk, hb.1, ⟨hb.2.1, by simpa using hb.2.2⟩, rfl⟩
      · cases h
    · cases h
  · cases h
theorem flav_all {k : NK} {t : List (NK × PyData)} (h : flav k t = true) : ∀ p ∈ t, p.1.isTup = k.isTup := fun p hp => eq_of_beq (List.all_eq_true.mp h p hp)
theorem disp_val (I : Inv X pins σ H s) : ∀ {vps : List (V × V)} {ws : List (Vl × Vl)} {vs : List (Value × Value)} {kvs : List (NK × PyData)}, RPr X.K mg r H vps ws → VV vps vs → asKV ws = some kvs → (∀ p ∈ kvs, p.1.isTup = false) →
    ∃ (rs : List (Option Key × Value)) (ps : List (NestedKey × Addr × V)), Carries (noneKind X.prog X.w) vs rs ∧ KVn ps rs ∧ RpKV X.K r H ps kvs
  | _, _, _, _, .nil, .nil, e, _ => by cases e; exact ⟨[], [], True.intro, .nil, .nil⟩
  | _, _, _, _, @RPr.cons _ _ _ _ x y a b vps ws qa qb t, @Paired.cons _ _ _ _ bb _ bs hh rv, e, f => by
    obtain ⟨d, z, t', k, h1, h2, h3, h4, h5, h6, rfl⟩ := asKV_cons e
    obtain ⟨rs, ps, g1, g2, g3⟩ := disp_val I t rv h3 fun p hp => f p (List.mem_cons_of_mem _ hp)
    obtain ⟨j, hj⟩ := nkeyV_of ((isTup_toN k).trans (f _ List.mem_cons_self))
    obtain ⟨b1, b2⟩ := bb
    refine ⟨(j, b2) :: rs, (k.toN, 0, y) :: ps, ⟨nkeyV_is hj h6.2 h4 (datOf_ok qa h1) hh.1, rfl, g1⟩, .cons ⟨hj, hh.2⟩ g2, .cons ⟨h6.2, fun ks ek => ?_⟩ (datOf_ok qb h2) g3⟩
    rw [ek] at hj
    exact absurd hj.symm nkeyV_tup
theorem disp_tup (I : Inv X pins σ H s) : ∀ {vps : List (V × V)} {ws : List (Vl × Vl)} {vs : List (Value × Value)} {kvs : List (NK × PyData)}, RPr X.K mg r H vps ws → VV vps vs → asKV ws = some kvs → (∀ p ∈ kvs, p.1.isTup = true) →
    ∃ (xs : List (NestedKey × Addr × Value)) (ps : List (NestedKey × Addr × V)), CarriesH (nestedKind X.prog X.w) s.heap vs xs ∧ KTn ps xs ∧ RpKV X.K r H ps kvs ∧ ∀ p ∈ ps, isTupK p.1 = true
  | _, _, _, _, .nil, .nil, e, _ => by cases e; exact ⟨[], [], True.intro, .nil, .nil, fun p hp => nomatch hp⟩
  | _, _, _, _, @RPr.cons _ _ _ _ x y a b vps ws qa qb t, @Paired.cons _ _ _ _ bb _ bs hh rv, e, f => by
    obtain ⟨d, z, t', k, h1, h2, h3, h4, h5, h6, rfl⟩ := asKV_cons e
    obtain ⟨xs, ps, g1, g2, g3, g4⟩ := disp_tup I t rv h3 fun p hp => f p (List.mem_cons_of_mem _ hp)
    obtain ⟨b1, b2⟩ := bb
    have q := datOf_ok qa h1
    rw [← keyN_data h4] at q
    have hk := f _ List.mem_cons_self
    cases k with
    | none => cases hk
    | num _ => cases hk
    | bool _ => cases hk
    | text _ => cases hk
    | tup ks =>
      have q2 := q
      rw [NK.data] at q2
      cases q2 with
      | @tup A _ _ l1 l2 =>
        have e1 : b1 = .ref A := hh.1
        subst e1
        refine ⟨((NK.tup ks).toN, A, b2) :: xs, ((NK.tup ks).toN, A, y) :: ps, ⟨rfl, rfl, ⟨nested_of I q rfl, h5⟩, g1⟩, .cons ⟨rfl, rfl, hh.2⟩ g2, .cons ⟨rfl, fun ks' ek => ⟨q, h5⟩⟩ (datOf_ok qb h2) g3, fun p hp => ?_⟩
        rcases List.mem_cons.mp hp with e | hp
        · rw [e]; rfl
        · exact g4 p hp
end
theorem tRun.bindE {α γ β δ : Type} {X : Cx} {c : Cf} {W : WX} {r : Lv} {σ : L2.St} {H : Hp} {S : Sto} {R : Lv → Hp → β → α → Prop} {R1 : Lv → Hp → δ → γ → Prop} {m : M γ} {g : γ → M α} {Q : β → Hp → Prop} (h : tRun X c W R r σ H S (m >>= g) Q) :
    tRun X c W R1 r σ H S m (fun b H1 => ∃ r1 S1 a, m S = some (.ok a, S1) ∧ Ext c.lam r r1 H H1 ∧ StoRel (wg X) X.K r1 H1 S1 ∧ Tabs c.T H1 ∧ R1 r1 H1 b a ∧ tRun X c W R r1 σ H1 S1 (g a) Q) := by
  obtain ⟨o, S', e, hh⟩ := h.bind (R1 := R1)
  refine ⟨o, S', e, ?_⟩
  cases o with
  | error x => exact hh
  | ok a =>
    intro r' b H' E s t q
    obtain ⟨r1, S1, a', E1, s1, t1, q1, h1⟩ := hh r' b H' E s t q
    refine ⟨r', S', a, e, E, s, t, q, ?_⟩
    obtain ⟨o2, S2, e2, h2⟩ := id h
    rw [M.bind_run, e] at e2
    refine ⟨o2, S2, e2, ?_⟩
    cases o2 with
    | ok w => exact fun r'' v H'' E' s' t' q' => h2 r'' v H'' (E.trans E') s' t' q'
    | error y =>
      obtain ⟨C, hC, h2⟩ := h2
      exact ⟨C, hC, fun r'' H'' E' s' t' => h2 r'' H'' (E.trans E') s' t'⟩
theorem run_next {α γ β : Type} {X : Cx} {c : Cf} {W : WX} {r : Lv} {σ : L2.St} {H : Hp} {S S1 : Sto} {R : Lv → Hp → β → α → Prop} {m : M γ} {g : γ → M α} {Q : β → Hp → Prop} (h : tRun X c W R r σ H S (m >>= g) Q) {a : γ} (e : m S = some (.ok a, S1)) : tRun X c W R r σ H S1 (g a) Q := by
  obtain ⟨o, S', e', h⟩ := h
  rw [M.bind_run, e] at e'
  exact ⟨o, S', e', h⟩
/-- the start moved on -/
theorem tRun.on {α β : Type} {X : Cx} {c : Cf} {W : WX} {r r1 : Lv} {σ : L2.St} {H H1 : Hp} {S : Sto} {R : Lv → Hp → β → α → Prop} {m : M α} {Q : β → Hp → Prop} (h : tRun X c W R r σ H S m Q) (E : Ext c.lam r r1 H H1) : tRun X c W R r1 σ H1 S m Q := by
  obtain ⟨o2, S2, e2, h2⟩ := h
  refine ⟨o2, S2, e2, ?_⟩
  cases o2 with
  | ok w => exact fun r'' v H'' E' s' t' q' => h2 r'' v H'' (E.trans E') s' t' q'
  | error y =>
    obtain ⟨C, hC, h2⟩ := h2
    exact ⟨C, hC, fun r'' H'' E' s' t' => h2 r'' H'' (E.trans E') s' t'⟩

theorem tabs_ho {T : List (Addr × Str)} {wd : World} {H : Hp} {D a : Addr} {ps : List (NestedKey × Addr × V)} {o : HO} (t : Tabs T H) (hD : H D = some (HoD wd a ps)) : Tabs T (upd H D o) := by
  intro p hp
  obtain ⟨us, h1, h2, h3⟩ := t p hp
  refine ⟨us, by rw [upd_ne (fun z => by rw [z, hD] at h1; cases h1)]; exact h1, h2, fun pos cv hc => ?_⟩
  obtain ⟨cc, e1, e2⟩ := h3 pos cv hc
  refine ⟨cc, e1, ?_⟩
  rw [upd_ne (fun z => by rw [z, hD] at e2; exact codeO_hoD (Option.some.inj e2).symm)]
  exact e2
theorem dform_empty {P : Program} {wd : World} {h : Heap} (hb : sysModules < h.objs.size) : DForm wd h.objs.size [] (h.push { cls := .type "dict", data := .dict #[] }) :=
  ⟨Nat.zero_le _, beq_eq_false_iff_ne.mpr (Ne.symm (Nat.ne_of_lt hb)), .inl ⟨[], .nil, fun P => Heap.DictOf.new h⟩⟩
section
variable {X : Cx} {c : Cf} {W : WX} {pos : Pos}
theorem qpp_nil : PPs X pos [] [] (([] : List ((Ev → M Vl) × (Ev → M Vl))).map fun p => (tE X c W p.1, tE X c W p.2)) := pps_nil
theorem qpp_cons {k v : Expr} {ks : List (Option Expr)} {vs : List Expr} {f g : Ev → M Vl} {ps : List ((Ev → M Vl) × (Ev → M Vl))} (hk : QE X c W k f) (hv : QE X c W v g) (hr : PPs X pos ks vs (ps.map fun p => (tE X c W p.1, tE X c W p.2))) :
    PPs X pos (some k :: ks) (v :: vs) (((f, g) :: ps).map fun p => (tE X c W p.1, tE X c W p.2)) := pps_cons hk hv hr
theorem qe_disp {keys : List (Option Expr)} {values : List Expr} {ps : List ((Ev → M Vl) × (Ev → M Vl))} (hu : X.A.units + 64 < cLine) (hp : PPs X pos keys values (ps.map fun p => (tE X c W p.1, tE X c W p.2))) (hall : keys.all (·.isSome) = true := by rfl) (hl : keys.length = values.length := by rfl) (h0 : keys ≠ [] := by simp) (h15 : keys.length ≤ 15 := by decide) :
    QE X c W (.Dict keys values pos) (fDisp ps) := by
  refine ⟨fun pins s σ H Q I h => ?_⟩
  obtain ⟨r, ev, S, x, h⟩ := h
  have hn := I.hok.fresh (Nat.le_refl s.heap.objs.size)
  obtain ⟨p, hpq⟩ : ∃ p, p = s.heap.objs.size := ⟨_, rfl⟩
  have I1 : Inv X pins σ (upd H p (HoD X.w p [])) { s with heap := s.heap.push { cls := .type "dict", data := .dict #[] } } := by
    rw [hpq]
    exact I.laid (t' := s.toks) (fun _ _ q => Heap.get?_push_of_some _ q) (Nat.le_refl _) (hoD_ok (dform_empty (P := X.prog) I.big))
  rw [← hpq] at hn
  have E1 : Ext false r r H (upd H p (HoD X.w p [])) := Ext.new x.sto.mu hn
  have x1 : Rel X c r σ (upd H p (HoD X.w p [])) ev S := x.ext' E1 (x.sto.new hn)
  have hb := (h.on E1.up).bindE (R1 := RPr X.K X.mg)
  -- what follows the pairs
  have fin : ∀ {H2 : Hp} {s2 : Shared} {h' : Heap} {t' : Nat} {r2 : Lv} {S2 : Sto} {ws : List (Vl × Vl)} {kvs : List (NK × PyData)} {vps : List (NestedKey × Addr × V)}, Inv X pins σ H2 s2 → Ext c.lam r r2 (upd H p (HoD X.w p [])) H2 → StoRel (wg X) X.K r2 H2 S2 → Tabs c.T H2 → asKV ws = some kvs →
      tRun X c W (Rw X.K X.mg) r σ H S2 (do let kvs ← M.lift (asKV ws); if kvs.length ≤ 1000 then M.newK (mergeKV [] kvs) else M.fail) Q → RpKV X.K r2 H2 vps kvs → Heap.SameBut p s2.heap h' → (kvs.length ≤ 1000 → DForm X.w p (mergeVV [] vps) h') → EP X pins σ Q (.ref p) { s2 with heap := h', toks := t' } := by
    intro H2 s2 h' t' r2 S2 ws kvs vps I2 E2 st2 tb2 ek hr qk sb df
    have hD : H2 p = some (HoD X.w p []) := by
      rcases E2.keep p _ upd_same (fun hm => (x.sto.no hn).1 hm) with z | ⟨_, ps, z⟩
      · exact z
      · cases z
    have Ef : Ext c.lam r r2 H H2 := E1.up.trans E2
    have nn : r2.no p := by
      obtain ⟨n, rfl, hf⟩ := E2.pre
      refine ⟨fun hm => ?_, (x.sto.no hn).2⟩
      rcases List.mem_append.mp hm with hm | hm
      · exact (x.sto.no hn).1 hm
      · obtain ⟨_, ps, z⟩ := (hf p hm).clash upd_same
        cases z
    obtain ⟨kvs', ek', hr2⟩ := lift_run hr
    rw [ek] at ek'
    cases ek'
    split at hr2
    · rename_i hz
      obtain ⟨o, _, _, eo, _⟩ := (df hz).obj
      refine ⟨.ref p, upd H2 p (HoD X.w p (mergeVV [] vps)), d_write I2 (by rw [hD]; exact True.intro) sb ⟨o, eo⟩ (hoD_ok (df hz)), rfl, ?_⟩
      obtain ⟨o', S', e', hq⟩ := hr2
      cases e'
      exact hq ⟨r2.st ++ [p], r2.hid⟩ (.ref p) _ (Ef.join hn) (st2.join hD nn (qk.merge .nil)) (tabs_ho tb2 hD) ⟨p, by show (r2.st ++ [p])[S2.length]? = some p; rw [← st2.len, List.getElem?_append_right (Nat.le_refl _)]; simp, rfl⟩
    · exact (fail_run hr2).elim
  have sys : (p == sysModules) = false := by
    rw [hpq]
    exact beq_eq_false_iff_ne.mpr (Ne.symm (Nat.ne_of_lt I.big))
  have len : ∀ {vps : List (NestedKey × Addr × V)} {kvs : List (NK × PyData)} {r2 : Lv} {H2 : Hp}, RpKV X.K r2 H2 vps kvs → kvs.length ≤ 1000 → (mergeVV [] vps).length ≤ sizeLine := fun {vps kvs r2 H2} q hz => by
    have h1 := mergeVV_len vps []
    have h2 := q.length
    rw [List.length_nil] at h1
    rw [sizeLine_eq]; omega
  by_cases ft : ∃ ws S1 kvs, fPairs ps ev S = some (.ok ws, S1) ∧ asKV ws = some kvs ∧ allTup kvs = true
  · obtain ⟨ws0, S0, kvs0, f1, f2, f3⟩ := ft
    have hn2 := pairTrees_length keys values X.env pos hall hl
    rw [arm_eval_Dict, zip_pairTrees keys values X.env pos hall hl, dictDisplay_pairs (pairTrees keys values X.env pos) (fun he => by rw [he] at hn2; exact h0 (List.length_eq_zero_iff.mp hn2.symm)) (by omega)]
    refine wpAny_bind (wpAny_standAt (wpAny_bind (wpAny_subDictH (knd := nestedKind X.prog X.w) (Q := fun d s' => wpAny (model X.prog X.w) X.A (pure (Value.ref d)) (EP X pins σ Q) X.xe s') (show X.A.units + 8 < cLine by omega) (by omega)
      (thn (hp.run pins _ σ _ _ I1 (pairs_run ps (tX.of x1 hb fun _ _ z => z))) fun vs s2 ⟨vps, H2, I2, rel, r2, S2, ws, e2, E2, st2, tb2, q2, _⟩ => ?_))))
    rw [f1] at e2
    cases e2
    have ht : ∀ p ∈ kvs0, p.1.isTup = true := fun p hp => by
      cases kvs0 with
      | nil => cases hp
      | cons q t =>
        cases ws0 with
        | nil => cases f2
        | cons w ws' =>
          obtain ⟨d, z, t', k, _, _, _, _, _, hf, he⟩ := asKV_cons (x := w.1) (y := w.2) f2
          cases he
          rcases List.mem_cons.mp hp with e | hp
          · rw [e]; exact f3
          · rw [flav_all hf.1 p hp]; exact f3
    obtain ⟨xs, vps', g1, g2, g3, g4⟩ := disp_tup I2 q2 rel f2 ht
    have hD2 : H2 p = some (HoD X.w p []) := by
      rcases E2.keep p _ upd_same (fun hm => (x.sto.no hn).1 hm) with z | ⟨_, ps, z⟩
      · exact z
      · cases z
    obtain ⟨xs0, k0, dd0⟩ := dform_tup (r := r2) (qs := []) I2 (.inl hD2) .nil (fun p hp => nomatch hp)
    cases k0
    rw [← hpq]
    refine ⟨xs, g1, dd0, fun h' tk dd sb => wpAny_pure (fin I2 E2 st2 tb2 f2 (run_next (γ := List (Vl × Vl)) (m := fPairs ps ev) (g := fun ws => do let kvs ← M.lift (asKV ws); if kvs.length ≤ 1000 then M.newK (mergeKV [] kvs) else M.fail) h f1) g3 sb fun hz => ⟨len g3 hz, sys, .inr ⟨fun p hp => ?_, storedAllH [] xs, g2.merge .nil, ?_⟩⟩)⟩
    · have := mergeVV_tup g4 (acc := []) (fun p hp => nomatch hp) p hp
      cases hq : p.1 with
      | tup ks => exact ⟨ks, rfl⟩
      | none => rw [hq] at this; cases this
      | num _ => rw [hq] at this; cases this
      | text _ => rw [hq] at this; cases this
    · obtain ⟨o, es, ep, l1, l2, l3, l4, _, l5⟩ := dd
      exact ⟨o, es, ep, l1, l2, l3, l4, l5⟩
  · refine wpAny_Dict_walk (knd := noneKind X.prog X.w) hall hl h0 h15 (thn (hp.run pins _ σ _ _ I1 (pairs_run ps (tX.of x1 hb fun _ _ z => z))) fun vs s2 ⟨vps, H2, I2, rel, r2, S2, ws, e2, E2, st2, tb2, q2, hr⟩ => ?_)
    obtain ⟨kvs, ek, _⟩ := lift_run hr
    have ht : ∀ p ∈ kvs, p.1.isTup = false := fun p hp => by
      cases ws with
      | nil => cases ek; cases hp
      | cons w ws' =>
        obtain ⟨d, z, t', k, _, _, _, _, _, hf, he⟩ := asKV_cons (x := w.1) (y := w.2) ek
        have hk : k.isTup = false := by
          cases hk : k.isTup with
          | false => rfl
          | true => exact absurd ⟨_, _, kvs, e2, ek, by rw [he]; exact hk⟩ ft
        rw [he] at hp
        rcases List.mem_cons.mp hp with e | hp
        · rw [e]; exact hk
        · rw [flav_all hf.1 p hp]; exact hk
    obtain ⟨rs, vps', g1, g2, g3⟩ := disp_val I2 q2 rel ek ht
    have hD2 : H2 p = some (HoD X.w p []) := by
      rcases E2.keep p _ upd_same (fun hm => (x.sto.no hn).1 hm) with z | ⟨_, ps, z⟩
      · exact z
      · cases z
    obtain ⟨vs0, k0, dd0⟩ := dform_val (dform_at I2 (.inl hD2)) (fun p hp => nomatch hp)
    cases k0
    rw [← hpq]
    exact ⟨rs, g1, dd0 X.prog, fun h' dd sb => fin I2 E2 st2 tb2 ek (run_next (γ := List (Vl × Vl)) (m := fPairs ps ev) (g := fun ws => do let kvs ← M.lift (asKV ws); if kvs.length ≤ 1000 then M.newK (mergeKV [] kvs) else M.fail) h e2) g3 sb fun hz => ⟨len g3 hz, sys, .inl ⟨merged [] rs, g2.merge .nil, fun P => dictOf_P dd⟩⟩⟩
end
end DD
/-! part DH -/
set_option Elab.async false
set_option linter.all false
set_option maxRecDepth 100000
set_option maxHeartbeats 4000000
namespace DD
open PySem PySem.Spec PyProof.Rows L2 LamX

/-! ### ranges as values -/
def fRngV (f : Ev → M (List Vl)) : Ev → M Vl := fun ev => do
  let ws ← f ev
  let ds ← rdAll ws
  match ds with
  | [.int j] => pure (.r 0 j)
  | _ => M.fail
def rngOf : Vl → Option (List PyData)
  | .r lo hi => if -1000000 ≤ lo ∧ lo ≤ 1000000 ∧ -1000000 ≤ hi ∧ hi ≤ 1000000 then some (intsL lo (hi - lo).toNat) else none
  | _ => none
def fItemsR (f : Ev → M Vl) : Ev → M (List PyData) := fun ev => do
  let w ← f ev
  M.lift (rngOf w)
section
variable {X : Cx} {c : Cf} {W : WX} {e tg : Expr} {fe : Ev → M Vl} {fs : Ev → M (List Vl)} {pos : Pos}
theorem cr_rng1 : CallR X (.type "range") (fun vs H Q => ∃ j, vs = [V.int j] ∧ ∀ p, H p = none → Q (.ref p) (upd H p (.rng 0 j))) := by
  intro pins s σ H vs us Q I r h
  obtain ⟨j, rfl, q⟩ := h
  cases r with
  | cons a t =>
    cases t
    obtain ⟨k, rfl⟩ := a
    exact call_range_1 ⟨.ref s.heap.objs.size, upd H s.heap.objs.size (.rng 0 j), I.laid (t' := s.toks + 1 + 1) (fun b o e => Heap.get?_push_of_some _ e) (Nat.le_refl _) ⟨s.toks, k, s.toks + 1, Heap.get?_push_size _ rfl⟩, rfl, q _ (I.hok.fresh (Nat.le_refl _))⟩
theorem qe_rng1 {p : Pos} (hg : Gl X "range") (hm : X.mg "range" = none) (ha : QA X c W [e] fs) (he : starEach [e] X.env = (false, eval e X.env) :: starEach [] X.env := by rfl) (hpl : (backTo pos (starEach [] X.env)).any (·.1) = false := by rfl) :
    QE X c W (.Call (.Name "range" p) [e] [] pos) (fRngV fs) := pe_weak (pe_callTy cr_rng1 hg hm boot_range ha (by decide) (by decide) he hpl) fun σ H Q h => by
  obtain ⟨r, ev, S, x, h⟩ := h
  refine tX.of x h.bind fun vs H1 ⟨r1, S1, ws, e1, s1, t1, q1, h1⟩ => ?_
  obtain ⟨ds, qd, h2⟩ := rdAll_run h1 s1 q1
  try dsimp only at h2
  split at h2
  · obtain ⟨v, rfl, q⟩ := qd.one
    cases q.int
    exact ⟨_, rfl, fun p hp => h2.new rfl s1 t1 hp ⟨p, upd_same, rfl⟩⟩
  · exact (fail_run h2).elim
theorem pi_rngV {tl : TE} (hl : PE X e tl) : PI X tg e (fun σ H R => tl σ H fun x H1 => ∃ a lo hi, x = .ref a ∧ H1 a = some (.rng lo hi) ∧ -(2 ^ 62) ≤ lo ∧ lo < 2 ^ 62 ∧ -(2 ^ 62) ≤ hi ∧ hi < 2 ^ 62 ∧ R (Itr lo (hi - lo).toNat) H1) := by
  refine ⟨fun pins s σ H R I h => thn (hl.run pins s σ H _ I h) fun v s1 ⟨x, H1, I1, r1, a, lo, hi, ex, ha, l1, l2, l3, l4, q⟩ => ?_⟩
  subst ex
  cases r1
  obtain ⟨t, u, k, ho⟩ := (show ∃ t u v, s1.heap.get? a = some { cls := .type "range", data := .fields #[.int lo t, .int hi u, .int 1 v] } from I1.hok a _ ha)
  refine wpAny_pyIter_range (show IsRange s1.heap a lo hi 1 t u k from ho) (small_one l1 l2 l3 l4) ⟨s1.heap.objs.size, [s1.heap.objs.size], _, _, H1, rfl, I1.kept (t' := s1.toks) fun b o e => Heap.get?_push_of_some _ e, turn_range _ lo (hi - lo).toNat, ?_, fun b hb => ?_, q⟩
  · have e1 : lo + ((0 : Nat) : Int) * 1 = lo := by simp
    have e2 : (((hi - lo).toNat : Nat) : Int) - ((0 : Nat) : Int) = Builtin.Range.rangeSize lo hi 1 := by rw [rangeSize_one]; split <;> omega
    show IsRangeIter _ _ (lo + ((0 : Nat) : Int) * 1) ((((hi - lo).toNat : Nat) : Int) - ((0 : Nat) : Int)) 1
    rw [e1, e2]
    exact Heap.get?_push_size _ rfl
  · have e : b = s1.heap.objs.size := by simpa using hb
    subst e
    exact I1.fpOk (Nat.le_refl _) (I1.hok.fresh (Nat.le_refl _))
theorem qi_rngV (he : QE X c W e fe) : QI X c W tg e (fItemsR fe) := pi_weak (pi_rngV he) fun σ H R h => by
  obtain ⟨r, ev, S, x, h⟩ := h
  refine tX.of x h.bind fun v H1 ⟨r1, S1, w, e1, s1, t1, q1, h1⟩ => ?_
  obtain ⟨ds, ed, h2⟩ := tX_last (b := Itr 0 0) h1
  unfold rngOf at ed
  split at ed
  · split at ed
    · rename_i hb
      cases ed
      obtain ⟨a, ha, rfl⟩ := q1
      exact ⟨a, _, _, rfl, ha, by omega, by omega, by omega, by omega, h2.pure rfl s1 t1 ⟨_, yields_range, True.intro⟩⟩
    · cases ed
  · cases ed
end
end DD
/-! part DI -/
set_option Elab.async false
set_option linter.all false
set_option maxRecDepth 100000
set_option maxHeartbeats 4000000
namespace DD
open PySem PySem.Spec PyProof.Rows L2 LamX PySem.W

/-! ### sorted -/
def alikeB (ds : List PyData) : Bool := ds.all fun d => ds.all fun e => alike d e
def tupB : PyData → Bool
  | .tuple (_ :: _) => true
  | _ => false
def plainB : PyData → Bool
  | .none => false
  | .tuple _ => false
  | _ => true
def sortB (ds : List PyData) : Bool := alikeB ds && (ds.all tupB || ds.all plainB) && ds.all (fun d => decide (d.depth ≤ 32)) && decide (ds.length ≤ 1000000)
def msM {α} (le : α → α → Bool) : Nat → List α → List α → List α
  | 0, xs, ys => xs ++ ys
  | n+1, [], ys => ys
  | n+1, xs, [] => xs
  | n+1, x :: xs, y :: ys => if le x y then x :: msM le n xs (y :: ys) else y :: msM le n (x :: xs) ys
theorem msM_eq {α} (le : α → α → Bool) : ∀ n (xs ys : List α), xs.length + ys.length ≤ n → msM le n xs ys = List.merge xs ys le
  | 0, xs, ys, h => by
    have h1 : xs = [] := List.eq_nil_of_length_eq_zero (by omega)
    have h2 : ys = [] := List.eq_nil_of_length_eq_zero (by omega)
    subst h1; subst h2; simp [msM]
  | n+1, [], ys, h => by simp [msM]
  | n+1, x :: xs, [], h => by simp [msM]
  | n+1, x :: xs, y :: ys, h => by
    simp only [msM, List.merge]
    simp only [List.length_cons] at h
    rw [msM_eq le n xs (y :: ys) (by simp only [List.length_cons]; omega), msM_eq le n (x :: xs) ys (by simp only [List.length_cons]; omega)]
def msF {α} (le : α → α → Bool) : Nat → List α → List α
  | 0, xs => xs
  | n+1, [] => []
  | n+1, [a] => [a]
  | n+1, a :: b :: xs =>
    let l := a :: b :: xs
    let k := (l.length + 1) / 2
    msM le l.length (msF le n (l.take k)) (msF le n (l.drop k))
theorem msF_eq {α} (le : α → α → Bool) : ∀ n (xs : List α), xs.length ≤ n → msF le n xs = xs.mergeSort le
  | 0, xs, h => by
    have h1 : xs = [] := List.eq_nil_of_length_eq_zero (by omega)
    subst h1; simp [msF]
  | n+1, [], h => by simp [msF]
  | n+1, [a], h => by simp [msF]
  | n+1, a :: b :: xs, h => by
    simp only [List.length_cons] at h
    rw [List.mergeSort]
    simp only [msF, List.MergeSort.Internal.splitInTwo_fst, List.MergeSort.Internal.splitInTwo_snd]
    rw [msF_eq le n _ (by simp only [List.length_take, List.length_cons]; omega), msF_eq le n _ (by simp only [List.length_drop, List.length_cons]; omega), msM_eq _ _ _ _ (by simp only [List.length_mergeSort, List.length_take, List.length_drop, List.length_cons]; omega)]
def sortD (ds : List PyData) : List PyData := msF (dataLe false id) ds.length ds
theorem sortD_eq (ds : List PyData) : sortD ds = ds.mergeSort (dataLe false id) := msF_eq _ _ _ (Nat.le_refl _)
def sortedP : List PyData → Option PyData
  | [.list ds] => if sortB ds then some (.list (sortD ds)) else none
  | _ => none
theorem alikeB_ok {ds : List PyData} (h : alikeB ds = true) : AllAlike (ds.map id) := by
  rw [List.map_id]
  intro d hd e he
  exact List.all_eq_true.mp (List.all_eq_true.mp h d hd) e he
theorem sortable_ok {ds : List PyData} (h : (ds.all tupB || ds.all plainB) = true) : Sortable (ds.map id) := by
  rw [List.map_id]
  rcases Bool.or_eq_true _ _ ▸ h with h | h
  · refine .inl fun d hd => ?_
    have := List.all_eq_true.mp h d hd
    unfold tupB at this
    split at this
    · exact ⟨_, _, rfl⟩
    · cases this
  · refine .inr fun d hd => ?_
    have := List.all_eq_true.mp h d hd
    refine ⟨fun e => ?_, fun xs e => ?_⟩ <;> (subst e; cases this)
def rSortD (K : PySem.W.Frag) : List V → Hp → VK → Prop := fun vs H Q => ∃ r a xs ds, vs = [V.ref a] ∧ SqL K H a xs ∧ RpAll K r H xs ds ∧ sortB ds = true ∧ ∀ zs p, RpAll K r H zs (sortD ds) → H p = none → Q (.ref p) (upd H p (.lst zs))
section
variable {X : Cx} {c : Cf} {W : WX} {r : Lv} {H : Hp} {K : PySem.W.Frag}
theorem each_back : ∀ {out : List Value} {ds : List PyData}, EachIs (fun v d => ∃ x, RelV x v ∧ Rp K r H x d) out ds → ∃ zs, Vals zs out ∧ RpAll K r H zs ds
  | _, _, .nil => ⟨[], .nil, .nil⟩
  | _, _, .cons ⟨x, h1, h2⟩ t => by
    obtain ⟨zs, g1, g2⟩ := each_back t
    exact ⟨x :: zs, .cons h1 g1, .cons h2 g2⟩
theorem each_of {pins : List (Addr × Obj)} {σ : L2.St} {s : Shared} (I : Inv X pins σ H s) : ∀ {xs : List V} {us : List Value} {ds : List PyData}, Vals xs us → RpAll X.K r H xs ds → EachIs (fun v d => ∃ x, RelV x v ∧ Rp X.K r H x d) us ds ∧ EachIs (fun v d => ∃ as, Reads s.heap v (id d) as) us ds
  | _, _, _, .nil, .nil => ⟨.nil, .nil⟩
  | _, _, _, .cons a t, .cons b u => by
    obtain ⟨h1, h2⟩ := each_of I t u
    exact ⟨.cons ⟨_, a, b⟩ h1, .cons (Dp.reads I _ _ _ b.dp a) h2⟩
theorem cr_sortD (hu : X.A.units + 64 < cLine) : CallR X (.builtin "sorted") (rSortD X.K) := by
  intro pins s σ H vs us Q I rv h
  obtain ⟨r, a, xs, ds, rfl, hs, hx, hb, q⟩ := h
  obtain ⟨its, rv2, pl, hz⟩ := I.list hs
  rw [Vals.ref1 rv]
  unfold sortB at hb
  simp only [Bool.and_eq_true, decide_eq_true_eq] at hb
  obtain ⟨⟨⟨b1, b2⟩, b3⟩, b4⟩ := hb
  obtain ⟨e1, e2⟩ := each_of I rv2 hx
  refine sorted_data (enc := id) pl.isList e1 e2 (alikeB_ok b1) (sortable_ok b2) (by rw [sizeLine_eq]; omega) (fun d hd => ?_) fun out hl ho => ?_
  · have := of_decide_eq_true (List.all_eq_true.mp b3 d hd)
    show X.A.units + 2 + d.depth < cLine
    omega
  · obtain ⟨zs, g1, g2⟩ := each_back ho
    obtain ⟨ep, he⟩ := PyProof.Rows.sortedAll_at s.heap its out.toArray
    exact ⟨.ref _, upd H (s.heap.objs.size + 1) (.lst zs), I.laid (t' := s.toks) (fun _ _ => PyProof.Rows.sortedAll_old) (Nat.le_succ _) ⟨by rw [g1.length, hl, sizeLine_eq]; omega, out, ep, g1, he⟩, rfl, q zs _ (sortD_eq ds ▸ g2) (I.hok.fresh (Nat.le_succ _))⟩
theorem q_sorted (hu : X.A.units + 64 < cLine) : CallQ X (.builtin "sorted") sortedP := by
  refine ⟨_, cr_sortD hu, fun r H S vs ds z Q s qs e A => ?_⟩
  unfold sortedP at e
  split at e
  · split at e
    · rename_i hb
      cases e
      obtain ⟨v, rfl, q⟩ := qs.one
      obtain ⟨a, us, rfl, h1, h2⟩ := q.list
      exact ⟨r, a, us, _, rfl, h1, h2, hb, fun zs p hz hp => A.new s hp (.lst (.inl ⟨upd_same, notin_new s hp⟩) (hz.ext (Ext.new (lam := false) s.mu hp)))⟩
    · cases e
  · cases e
end
end DD
/-! part DJ -/
set_option Elab.async false
set_option linter.all false
set_option maxRecDepth 100000
set_option maxHeartbeats 4000000
namespace DD
open PySem PySem.Spec PyProof.Rows L2 LamX

/-! ### a, b, .. = x, y, .. by way of a tuple -/
def setAll : List Nat → List Vl → Ev → Option Ev
  | [], [], ev => some ev
  | i :: is, w :: ws, ev => setAll is ws (ev.set i (some w))
  | _, _, _ => none
def sParN (is : List Nat) (f : Ev → M (List Vl)) : SM := fun ev => onE (f ev) ev fun ws S => if ws.length ≤ 1000 then (match setAll is ws ev with
  | some ev' => some (.nx, ev', S)
  | none => none) else none
def tGw (X : Cx) (c : Cf) (is : List Nat) : TGs := fun vs σ H Q => ∃ r ev S ws ev', Rel X c r σ H ev S ∧ RwAll X.K X.mg r H vs ws ∧ setAll is ws ev = some ev' ∧ ∀ σ', Rel X c r σ' H ev' S → Q σ' H
def QGw (X : Cx) (c : Cf) (t : List Expr) (is : List Nat) : Prop := PGs X t (tGw X c is)
section
variable {X : Cx} {c : Cf} {W : WX} {e : Expr} {es : List Expr} {pos : Pos} {fs : Ev → M (List Vl)}
theorem qgw_nil : QGw X c [] [] := pgs_weak pgs_nil fun v σ H Q ⟨r, ev, S, ws, ev', x', q, e, h⟩ => by
  cases q with
  | nil => cases e; exact ⟨rfl, h _ x'⟩
  | cons a b => cases e
theorem qgw_cons (i : Nat) {x : Str} {is : List Nat} {p : Pos} (hN : X.N.Nodup) (h2 : QGw X c es is) (hi : X.N[i]? = some x := by rfl) (hx : Loc X.env.scope x := by first | exact Or.inl rfl | exact Or.inr rfl)
    (hf : X.fn x = true ∨ X.env.scope.names.lookup x = some .local := by first | exact .inl rfl | exact .inr rfl | assumption)
    (hs : (assignEach (.Name x p :: es) X.env).map (·.2) = assign (.Name x p) X.env :: (assignEach es X.env).map (·.2) := by rfl) : QGw X c (.Name x p :: es) (i :: is) := pgs_weak (pgs_cons (pg_name hN hi hx hf) h2 hs) fun v σ H Q ⟨r, ev, S, ws, ev', x', q, e, h⟩ => by
  cases q with
  | nil => cases e
  | cons a b =>
    refine ⟨_, _, rfl, ?_⟩
    have e : setAll is _ (ev.set i (some _)) = some ev' := e
    have x2 := x'.set hi a
    exact ⟨r, _, S, _, ev', x2, b, e, h⟩
theorem qs_parN {tes : List Expr} {is : List Nat} {kt k2 : Nat} {pt pt2 : Pos} (hc : X.calm = true) (ha : QA X c W es fs) (hg : QGw X c tes is) (hs : swapsWithSole [.Tuple tes kt pt] (.Tuple es k2 pt2) pos.line X.env = pure false := by rfl) (hw : swappedStores [.Tuple tes kt pt] (.Tuple es k2 pt2) X.env = pure none := by rfl)
    (h1 : (assignEach [.Tuple tes kt pt] X.env).map (·.2) = [assign (.Tuple tes kt pt) X.env] := by rfl) (hn : (assignEach tes X.env).length = is.length := by rfl) (hst : (assignEach tes X.env).findIdx? (·.1) = none := by rfl) :
    QS X c W (.Assign [.Tuple tes kt pt] (.Tuple es k2 pt2) pos) (sParN is fs) := ps_weak (ps_asg (pe_tup ha) (pg_tup hc hg hn hst) hs hw h1) fun D σ H ⟨r, ev, S, x', h⟩ =>
  tX.of x' (h.onE x') fun vs H1 ⟨r1, S1, ws, e1, x1, q1, h1⟩ => by
    try dsimp only at h1
    split at h1
    · rename_i hz
      cases es : setAll is ws ev with
      | none =>
        rw [es] at h1
        exact (none_run h1).elim
      | some ev' =>
        rw [es] at h1
        refine ⟨by rw [q1.length, sizeLine_eq]; omega, fun p hp => ?_⟩
        have E : Ext false r1 r1 H1 (upd H1 p (.tup vs)) := Ext.new x1.sto.mu hp
        have x2 := x1.ext' E (x1.sto.new hp)
        have hl : ∀ {is : List Nat} {ws : List Vl} {ev ev' : Ev}, setAll is ws ev = some ev' → ws.length = is.length := by
          intro is
          induction is with
          | nil => intro ws ev ev' e; cases ws with
            | nil => rfl
            | cons a b => cases e
          | cons i is ih => intro ws ev ev' e; cases ws with
            | nil => cases e
            | cons a b => simp [ih (show setAll is b (ev.set i (some a)) = some ev' from e)]
        exact ⟨p, vs, rfl, .inl (.inl upd_same), by rw [q1.length, hl es], r1, ev, S1, ws, ev', x2, q1.ext E, es, fun σ' x3 => (h1.ext E.up).nx x3⟩
    · exact (none_run h1).elim
end
end DD
/-! part DL -/
set_option Elab.async false
set_option linter.all false
set_option maxRecDepth 100000
set_option maxHeartbeats 4000000
namespace DD
open PySem PySem.Spec PyProof.Rows L2 LamX

/-! ### a def that calls what it is handed and tells by a text which error came: try: f() / except E: return 'e' .. / return None -/
/-- the clause's text that an exception of the class cls meets -/
def catchW (K : PySem.W.Frag) : List (Str × Addr × Str) → Value → (Str → Prop) → Prop
  | [], _, _ => False
  | (_, C, z) :: r, cls, k => ∃ b, PySem.W.exmOne K cls (.ref C) = some b ∧ (b = true → k z) ∧ (b = false → catchW K r cls k)
inductive HndT (X : Cx) (sg : Scope) : List ExceptHandler → List (Str × Addr × Str) → Prop
  | nil : HndT X sg [] []
  | cons {e z : Str} {C : Addr} {j : Nat} {p4 p5 p6 p7 : Pos} {hds : List ExceptHandler} {l : List (Str × Addr × Str)} (hge : sg.names.lookup e = some .globalImplicit) (hme : X.mg e = some (.ref C)) (hde : (e == ("__debug__" : Str)) = false) (t : HndT X sg hds l) :
      HndT X sg (.ExceptHandler (some (.Name e p4)) none [.Return (some (.Constant (.str z) j p5)) p6] p7 :: hds) ((e, C, z) :: l)
def TTref (K : PySem.W.Frag) (l : List (Str × Addr × Str)) : (XK → Hp → VK → Prop) → Hp → VK → Prop := fun tl H Q => tl (fun cls _ H' => catchW K l cls fun z => Q (.str z) H') H (fun _ H' => Q .non H')
def tsOf (l : List (Str × Addr × Str)) : List (Value × (Addr → Value → Option Addr → TS)) := l.map fun q => (.ref q.2.1, fun _ _ _ D σ H => D.rt (.str q.2.2) H)
theorem hnds_ok {X X' : Cx} {sg : Scope} (hK : X'.mg = X.mg) (hs : ∀ e, sg.names.lookup e = some .globalImplicit → Gl X' e) : ∀ {hds : List ExceptHandler} {l : List (Str × Addr × Str)}, HndT X sg hds l → HdsOk X' hds (tsOf l)
  | _, _, .nil => .nil
  | _, _, .cons hge hme hde t => .cons ⟨hs _ hge, hde, .inl (by rw [hK]; exact hme)⟩ (fun a oe cls d pn _ _ => pss_one (ps_ret pe_str)) (hnds_ok hK hs t)
theorem catch_many {K : PySem.W.Frag} {Wo : WX} {D : Ends} {cls : Value} {d : Option Addr} {σ : L2.St} {H : Hp} : ∀ {l : List (Str × Addr × Str)}, catchW K l cls (fun z => D.rt (.str z) H) → wMany K Wo D (tsOf l) cls d σ H
  | [], h => h.elim
  | (_, C, z) :: r, ⟨b, e1, e2, e3⟩ => ⟨b, e1, fun hb a _ => e2 hb, fun hb => catch_many (e3 hb)⟩
theorem ref_gives {X : Cx} {Ng : List Str} {x a q : Str} {sg : Scope} {g : Addr} {cdg : Value} {j : Nat} {p1 p2 p3 p8 p9 p10 : Pos} {h0 : ExceptHandler} {hds : List ExceptHandler} {l : List (Str × Addr × Str)} (ht : HndT X sg (h0 :: hds) l) (hs : ∀ f : Addr, (L2.start Ng [V.ref f])[0]? = some (some (V.ref f))) :
    GivesTo X Ng x sg g cdg [.Try [.Expr (.Call (.Name a p1) [] [] p2) p3] (h0 :: hds) [] [] p8, .Return (some (.Constant .none j p9)) p10] a q (TTref X.K l) := by
  intro f c' s H Q tl act hc h
  refine ⟨_, pss_cons (ps_try_many (X := (cxOf C8.CX0 X.prog X.w X.K X.mg X.base Ng x sg g cdg X.A X.stack s H C8.E0).nox) (l := tsOf l)
      (tb := fun W D σ H => ∃ Ech : XK, (∀ cls d σ' H', Ech cls d H' → W cls d σ' H') ∧ σ[0]? = some (some (.ref f)) ∧ H c' = some (CodeO c' q) ∧ tl Ech H (fun _ H' => D.nx σ H'))
      rfl rfl takes0 (fun W pn xe tk _ => ?_) (hnds_ok (X := X) (X' := (cxOf C8.CX0 X.prog X.w X.K X.mg X.base Ng x sg g cdg X.A X.stack s H C8.E0).nox) (sg := sg) rfl (fun e he => he) ht)) (pss_one (ps_ret pe_non)), ?_⟩
  · refine ⟨fun pins s' σ H' D I h' => ?_⟩
    obtain ⟨Ech, hW, h1, h2, h3⟩ := h'
    have hq := pss_one (ps_expr (pos := p3) (act W pn xe Ech p1 p2 tk hW) (by rfl))
    exact hq.run pins s' σ H' D I ⟨h1, h2, h3⟩
  · exact ⟨fun cls _ H' => catchW X.K l cls fun z => Q (.str z) H', fun cls d σ' H' hw => catch_many hw, hs f, hc, h⟩

def fRefused (l : List (Str × Str)) (f : Ev → M Vl) : Ev → M Vl := fun ev S => match f ev S with
  | some (.ok _, S') => some (.ok (.d .none), S')
  | some (.error x, S') => match l.lookup x with
    | some z => some (.ok (.d (.str z)), S')
    | none => none
  | none => none
/-- the def that tells, where it stands -/
structure RefAt (K : PySem.W.Frag) (mg : Str → Option Value) (x : Str) (st : Stmt) (a : Str) (Ng : List Str) (l : List (Str × Addr × Str)) : Prop where
  d : DefAt K mg x st [a]
  sc : FnScope Ng [a] (defScope st)
  ng : Ng[0]? = some a
  vis : Vis (defScope st) a
  one : Ng.length = 1
  hnd : ∀ X : Cx, X.mg = mg → ∃ h0 hds p1 p2 p3 p8 j p9 p10, defBody st = [.Try [.Expr (.Call (.Name a p1) [] [] p2) p3] (h0 :: hds) [] [] p8, .Return (some (.Constant .none j p9)) p10] ∧ HndT X (defScope st) (h0 :: hds) l
  exm : ∀ p ∈ l, ∀ q ∈ l, PySem.W.exmOne K (.ref p.2.1) (.ref q.2.1) = some (decide (p.1 = q.1))
  glo : ∀ p ∈ l, mg p.1 = some (.ref p.2.1)
def nmOf (l : List (Str × Addr × Str)) : List (Str × Str) := l.map fun q => (q.1, q.2.2)
theorem catch_hit {K : PySem.W.Frag} {x z : Str} {C : Addr} {k : Str → Prop} : ∀ {l : List (Str × Addr × Str)}, (∀ q ∈ l, PySem.W.exmOne K (.ref C) (.ref q.2.1) = some (decide (x = q.1))) → (nmOf l).lookup x = some z → k z → catchW K l (.ref C) k
  | [], _, h, _ => by cases h
  | (e, D, y) :: r, hx, h, hk => by
    have h2 : ((e, y) :: nmOf r).lookup x = some z := h
    rw [List.lookup_cons] at h2
    refine ⟨_, hx _ List.mem_cons_self, fun hb => ?_, fun hb => ?_⟩
    · have e1 : x = e := of_decide_eq_true hb
      subst e1
      simp at h2
      subst h2
      exact hk
    · have e1 : ¬ x = e := of_decide_eq_false hb
      have e2 : (x == e) = false := by simpa using e1
      rw [e2] at h2
      exact catch_hit (fun q hq => hx q (List.mem_cons_of_mem _ hq)) h2 hk
theorem lookup_mem' {x z : Str} : ∀ {l : List (Str × Addr × Str)}, (nmOf l).lookup x = some z → ∃ p ∈ l, p.1 = x
  | [], h => by cases h
  | (e, D, y) :: r, h => by
    have h2 : ((e, y) :: nmOf r).lookup x = some z := h
    rw [List.lookup_cons] at h2
    by_cases q : x = e
    · exact ⟨_, List.mem_cons_self, q.symm⟩
    · have e2 : (x == e) = false := by simpa using q
      rw [e2] at h2
      obtain ⟨p, hp, e⟩ := lookup_mem' h2
      exact ⟨p, List.mem_cons_of_mem _ hp, e⟩
theorem ext_of_extN {lam : Bool} {r : Lv} {H H1 : Hp} (hl : lam = true) (mu : ∀ a, r.yes a → MutL (H a)) (e : ExtN H H1) : Ext lam r r H H1 := by
  refine ⟨⟨[], by simp, by simp⟩, fun a o h _ => ?_, fun a h => ?_, mu, fun a od u h => e a _ h fun ps z => (by cases z)⟩
  · by_cases ht : ∃ ps, o = .tbl ps
    · exact .inr ⟨hl, ht⟩
    · exact .inl (e a o h fun ps z => ht ⟨ps, z⟩)
  · cases q : H a with
    | none => exact .inl q
    | some o =>
      by_cases ht : ∃ ps, o = .tbl ps
      · exact .inr ⟨hl, by obtain ⟨ps, z⟩ := ht; exact ⟨ps, by rw [q, z]⟩⟩
      · have := e a o q fun ps z => ht ⟨ps, z⟩
        rw [h] at this
        cases this
theorem stoRel_extN {wd : Wg} {K : PySem.W.Frag} {r : Lv} {H H1 : Hp} {S : Sto} (s : StoRel wd K r H S) (e : ExtN H H1) : StoRel wd K r H1 S := by
  have E : Ext true r r H H1 := ext_of_extN rfl s.mu e
  have kp : ∀ a u, H a = some u → MutL (H a) → H1 a = some u := fun a u q m => e a u q fun ps z => by
    rw [q, z] at m; exact m
  refine ⟨s.nd, s.len, fun n a m h1 h2 => ?_, fun a ha => ?_, s.apart⟩
  · have mo := s.ob n a m h1 h2
    exact mo.map (fun u q => kp a u q mo.mut) (fun _ _ q => E.sqf q) (fun _ _ q => E.sqt q) fun _ _ q => q
  · have m := s.hid a ha
    cases q : H a with
    | none => rw [q] at m; exact m.elim
    | some u => rw [kp a u q m, ← q]; exact m
section
variable {X : Cx} {c : Cf} {W : WX} {A : Around} {outer : List Env} {s : Shared} {H0 : Hp} {E : XK} {scope : Scope} {f0 c0 : Addr}
theorem rel_lam : Rel (lamCx X A outer s H0 E scope f0 c0) c = Rel X c := by
  funext r σ H ev S
  exact propext ⟨fun h => ⟨h.1, h.2, h.3, h.4⟩, fun h => ⟨h.1, h.2, h.3, h.4⟩⟩
theorem tE_lam {W' : WX} {f : Ev → M Vl} : tE (lamCx X A outer s H0 E scope f0 c0) c W' f = tE X c W' f := by
  unfold tE tX
  rw [rel_lam]
  rfl
end
theorem qe_refused {X : Cx} {c : Cf} {W : WX} {x a : Str} {st : Stmt} {Ng : List Str} {l : List (Str × Addr × Str)} {C P : Addr} {k : Nat} {body : Expr} {scope : Scope} {p lpos pos : Pos} {params : Arguments} {f : Ev → M Vl} (F : RefAt X.K X.mg x st a Ng l) (hg : Gl X x)
    (hl : c.lam = true) (TB : TabB X.base X.mg C P) (hcode : X.env.code = .ref C) (hT : c.T = [(P, X.env.qual ++ "<lambda>")]) (hr : Room (k + 2) X.A) (L : LamS X.env.scope scope)
    (hbody : ∀ (A : Around) (outer : List Env) (s : Shared) (H : Hp) (E : XK) (f0 c0 : Addr), Room k (A.deeper (lamEnv X scope s.heap.objs.size f0 c0)) → QE (lamCx X A outer s H E scope f0 c0) c (fun cls d _ H => E cls d H) body f)
    (hdef : defaultsOf params X.env = ([], []) := by rfl) (hbind : ∀ (q : Str) (cl : List (Str × Addr)) (pm cv ctv : Value), bindArgs (PySem.W.kla_fn "<lambda>" q params body scope cl pm cv ctv) ⟨[], []⟩ = pure [] := by intros; rfl)
    (hdb : (x == ("__debug__" : Str)) = false := by decide) (hd : (a == ("__debug__" : Str)) = false := by decide) (hcd : (a == ("__classdict__" : Str)) = false := by decide) :
    QE X c W (.Call (.Name x p) [.Lambda params body scope lpos] [] pos) (fRefused (nmOf l) f) := by
  obtain ⟨g, fd, Fu, hm, bi⟩ := F.d
  obtain ⟨oc, od, kV, doc, pm, an, cdv, ct, osl, rfl, lk, hcg⟩ := Fu.ex
  obtain ⟨h0, hds, p1, p2, p3, p8, j, p9, p10, hbd, ht⟩ := F.hnd X rfl
  have hG : GivesTo X Ng x (defScope st) g cdv (defBody st) a (X.env.qual ++ "<lambda>") (TTref X.K l) := by
    rw [hbd]
    refine ref_gives ht fun f => ?_
    unfold L2.start
    simp
  have hu : ∀ q ∈ c.T, q.1 = P → q.2 = X.env.qual ++ "<lambda>" := fun q hq _ => by
    rw [hT] at hq
    have e : q = (P, X.env.qual ++ "<lambda>") := by simpa using hq
    rw [e]
  refine pe_weak (pe_lamcall (T := c.T) (t := fun E => tE X c (fun cls d _ H => E cls d H) f) hg hm Fu.kp lk hcg bi F.sc F.ng F.vis hG TB hcode (by rw [hT]; exact List.mem_cons_self) hu hr L hdef hbind (fun A outer s H E f0 c0 hr' => by
    have z := hbody A outer s H E f0 c0 hr'
    unfold QE at z
    rw [tE_lam] at z
    exact z) hdb hd hcd) fun σ H Q h => ?_
  obtain ⟨r, ev, S, x', h⟩ := h
  refine ⟨x'.tabs, fun H1 eN t1 => ?_⟩
  have E1 : Ext c.lam r r H H1 := ext_of_extN hl x'.sto.mu eN
  have x1 := x'.ext E1 (stoRel_extN x'.sto eN) t1
  have h1 := h.on E1
  obtain ⟨o, S', e, hq⟩ := h1
  unfold fRefused at e
  refine ⟨r, ev, S, x1, ?_⟩
  cases ef : f ev S with
  | none => rw [ef] at e; cases e
  | some q =>
    obtain ⟨o1, S1⟩ := q
    cases o1 with
    | ok w =>
      rw [ef] at e
      cases e
      exact ⟨.ok w, _, ef, fun r' v H' E' s' t' _ => hq r' .non H' E' s' t' (show Rp X.K _ _ _ _ from .non)⟩
    | error y =>
      rw [ef] at e
      dsimp only at e
      split at e
      · rename_i z hz
        cases e
        obtain ⟨q, hq1, hq2⟩ := lookup_mem' hz
        subst hq2
        refine ⟨.error q.1, _, ef, q.2.1, F.glo q hq1, fun r' H' E' s' t' => ?_⟩
        exact catch_hit (fun q2 h2 => F.exm q hq1 q2 h2) hz (hq r' (.str z) H' E' s' t' (show Rp X.K _ _ _ _ from .str z))
      · cases e
end DD
/-! part DK -/
set_option Elab.async false
set_option linter.all false
set_option maxRecDepth 100000
set_option maxHeartbeats 4000000
namespace DD
open PySem PySem.Spec PyProof.Rows L2 LamX

/-! ### comprehensions over values of any kind (defs) -/
structure YieldsV (wd : Wg) (K : PySem.W.Frag) (mg : Str → Option Value) (J : It) (ds : List Vl) (F : Lv → Hp → Prop) : Prop where
  go : ∀ r H i, F r H → i < ds.length → J.go i H
  yld : ∀ r H S i d x H', F r H → StoRel wd K r H S → ds[i]? = some d → J.yld i H x H' → Ext false r r H H' ∧ StoRel wd K r H' S ∧ Rw K mg r H' x d
  stop : ∀ r H, F r H → J.stop ds.length H
  ext : ∀ lam r r' H H', F r H → Ext lam r r' H H' → F r' H'
  hide : ∀ r H S D, F r H → StoRel wd K r H S → H D = none → F (r.hide D) (upd H D (.lst []))
  putH : ∀ r H S D xs, F r H → StoRel wd K r H S → D ∈ r.hid → F r (upd H D (.lst xs))
def RIV (wd : Wg) (K : PySem.W.Frag) (mg : Str → Option Value) : Lv → Hp → It → List Vl → Prop := fun r H J ds => ∃ F, YieldsV wd K mg J ds F ∧ F r H
def QIV (X : Cx) (c : Cf) (W : WX) (tg it : Expr) (f : Ev → M (List Vl)) : Prop := PI X tg it (tX X c W (RIV (wg X) X.K X.mg) f)
def compV (g : Vl → Ev → Option Ev) (t : Ev → M Bool) (el : Ev → M Vl) (ev : Ev) : List Vl → Sto → Option (List PyData × Sto)
  | [], S => some ([], S)
  | d :: ds, S => match g d ev with
    | none => none
    | some ev1 => match t ev1 S with
      | some (.ok true, S1) => match el ev1 S1 with
        | some (.ok (.d z), S2) => match compV g t el ev ds S2 with
          | some (zs, S3) => some (z :: zs, S3)
          | none => none
        | _ => none
      | some (.ok false, S1) => compV g t el ev ds S1
      | _ => none
def fCompV (fi : Ev → M (List Vl)) (g : Vl → Ev → Option Ev) (t : Ev → M Bool) (el : Ev → M Vl) (own : List Nat) : Ev → M Vl := fun ev => do
  let ds ← fi ev
  fun S => match compV g t el (wipeE ev own) ds S with
    | some (zs, S') => if zs.length ≤ 1000000 then some (.ok (.d (.list zs)), S') else none
    | none => none
section
variable {X : Cx} {c : Cf} {W : WX} {e : Expr} {pos : Pos} {K : PySem.W.Frag} {wd : Wg} {mg : Str → Option Value} {r : Lv} {H : Hp} {S : Sto} {σ : L2.St} {ev : Ev} {D : Addr}
/-- what a comprehension has come to: behind i items -/
structure CompV (X : Cx) (c : Cf) (r1 : Lv) (H1 : Hp) (D : Addr) (F : Lv → Hp → Prop) (σ0 : L2.St) (evw : Ev) (r : Lv) (H : Hp) (S : Sto) (acc : List PyData) : Prop where
  ext : Ext c.lam r1 r H1 H
  sto : StoRel (wg X) X.K (r.hide D) H S
  tabs : Tabs c.T H
  f : F (r.hide D) H
  at_ : ∃ accV, H D = some (.lst accV) ∧ RpAll X.K (r.hide D) H accV acc
  ev : EvR X.K X.mg (r.hide D) σ0 H evw
theorem CompV.start {r1 : Lv} {H1 : Hp} {S1 : Sto} {F : Lv → Hp → Prop} {J : It} {ds : List Vl} {vs : List Nat} (Y : YieldsV (wg X) X.K X.mg J ds F) (z : F r1 H1) (s : StoRel (wg X) X.K r1 H1 S1) (t : Tabs c.T H1) (q : EvR X.K X.mg r1 σ H1 ev) (hD : H1 D = none) :
    CompV X c r1 H1 D F (L2.wipe σ vs) (wipeE ev vs) r1 (upd H1 D (.lst [])) S1 [] :=
  ⟨Ext.new s.mu hD, s.hide hD, tabs_ext (Ext.new (lam := false) s.mu hD) t, Y.hide _ _ _ _ z s hD, ⟨[], upd_same, .nil⟩, (q.wipe vs).hide hD⟩
/-- a step within: the live ones may grow -/
theorem CompV.step {r1 r : Lv} {H1 H H' : Hp} {F : Lv → Hp → Prop} {J : It} {ds : List Vl} {acc : List PyData} {evw : Ev} {σ0 : L2.St} {S' : Sto} {r' : Lv} (Y : YieldsV (wg X) X.K X.mg J ds F) (C : CompV X c r1 H1 D F σ0 evw r H S acc) (E : Ext c.lam (r.hide D) r' H H') (s : StoRel (wg X) X.K r' H' S') (t : Tabs c.T H') :
    ∃ r2, r' = r2.hide D ∧ CompV X c r1 H1 D F σ0 evw r2 H' S' acc := by
  obtain ⟨r2, rfl, e2⟩ := C.ext.under E
  obtain ⟨accV, h1, h2⟩ := C.at_
  refine ⟨r2, rfl, e2, s, t, Y.ext _ _ _ _ _ C.f E, ⟨accV, ?_, h2.ext E⟩, C.ev.ext E⟩
  rcases E.keep D _ h1 (C.sto.apart D List.mem_cons_self) with q | ⟨_, ps, q⟩
  · exact q
  · cases q
theorem CompV.put {r1 r : Lv} {H1 H : Hp} {F : Lv → Hp → Prop} {J : It} {ds : List Vl} {acc : List PyData} {evw : Ev} {σ0 : L2.St} {z : PyData} {v : V} (Y : YieldsV (wg X) X.K X.mg J ds F) (C : CompV X c r1 H1 D F σ0 evw r H S acc) (q : Rp X.K (r.hide D) H v z) (hD : H1 D = none) :
    ∀ accV, H D = some (.lst accV) → CompV X c r1 H1 D F σ0 evw r (upd H D (.lst (accV ++ [v]))) S (acc ++ [z]) := fun accV hV => by
  obtain ⟨accV', h1, h2⟩ := C.at_
  rw [hV] at h1
  cases h1
  have hm : D ∈ (r.hide D).hid := List.mem_cons_self
  exact ⟨C.ext.fresh hD, C.sto.putH hm, tabs_put C.tabs hV, Y.putH _ _ _ _ _ C.f C.sto hm, ⟨_, upd_same, Ext.putH C.sto.mu hm (h2.append (.cons q .nil))⟩, C.ev.putH C.sto hm⟩
theorem CompV.done {r1 r : Lv} {H1 H : Hp} {F : Lv → Hp → Prop} {acc : List PyData} {evw : Ev} {σ0 : L2.St} (C : CompV X c r1 H1 D F σ0 evw r H S acc) (n1 : r1.no D) : StoRel (wg X) X.K r H S ∧ Rp X.K r H (.ref D) (.list acc) := by
  obtain ⟨accV, h1, h2⟩ := C.at_
  refine ⟨C.sto.show, .lst (.inl ⟨h1, C.sto.apart D List.mem_cons_self, ?_⟩) h2.show⟩
  obtain ⟨n, rfl, _⟩ := C.ext.pre
  exact n1.2
theorem compV_weak {fi : Ev → M (List Vl)} {g : Vl → Ev → Option Ev} {t : Ev → M Bool} {el : Ev → M Vl} {own is : List Nat} (hi : ∀ i ∈ is, i ∈ own) {Q : VK} (h : tE X c W (fCompV fi g t el own) σ H Q) :
    tLc (tX X c W (RIV (wg X) X.K X.mg) fi) (tG X c g is) (tT X c W0 t) (tE X c W0 el) own σ H Q := by
  obtain ⟨r, ev, S, x, h⟩ := h
  refine tX.of x h.bind fun J H1 ⟨r1, S1, ds, e1, s1, t1, ⟨F, Y, z1⟩, h1⟩ D hD => ?_
  have x1 := x.ext e1 s1 t1
  obtain ⟨o, Se, eo, hq⟩ := h1
  dsimp only at eo
  cases ec : compV g t el (wipeE ev own) ds S1 with
  | none => rw [ec] at eo; cases eo
  | some p =>
    obtain ⟨zs, Sx⟩ := p
    rw [ec] at eo
    dsimp only at eo
    split at eo
    · rename_i hz
      cases eo
      refine ⟨fun i m H => m = ds.length - i ∧ i ≤ ds.length ∧ ∃ r S acc rest, CompV X c r1 H1 D F (L2.wipe σ own) (wipeE ev own) r H S acc ∧ compV g t el (wipeE ev own) (ds.drop i) S = some (rest, Se) ∧ acc ++ rest = zs, ⟨_, rfl, Nat.zero_le _, r1, S1, [], zs, CompV.start Y z1 s1 t1 x1.ev hD, ec, rfl⟩, ?_⟩
      rintro i m H2 ⟨rfl, hil, r, S, acc, rest, C, e2, e3⟩
      by_cases hl : i < ds.length
      · refine .inr ⟨Y.go _ _ _ C.f hl, fun H' => ∃ r S acc rest, CompV X c r1 H1 D F (L2.wipe σ own) (wipeE ev own) r H' S acc ∧ compV g t el (wipeE ev own) (ds.drop (i + 1)) S = some (rest, Se) ∧ acc ++ rest = zs, fun H' q => ⟨ds.length - (i + 1), by omega, rfl, hl, q⟩, fun v H' y => ?_⟩
        have hd : ds[i]? = some ds[i] := List.getElem?_eq_getElem hl
        obtain ⟨E, s', q⟩ := Y.yld _ _ _ _ _ _ _ C.f C.sto hd y
        obtain ⟨r2, er2, C'⟩ := C.step Y E.up s' (tabs_ext E C.tabs)
        rw [List.drop_eq_getElem_cons hl] at e2
        simp only [compV] at e2
        have xb : Rel X c (r.hide D) (L2.wipe σ own) H' (wipeE ev own) S := ⟨s', tabs_ext E C.tabs, C.ev.ext E, by rw [wipe_length]; exact x.len⟩
        have hr2 : r2.hide D = r.hide D := er2.symm
        split at e2
        · cases e2
        · rename_i ev1 eg
          refine ⟨r.hide D, wipeE ev own, S, ds[i], ev1, xb, q, eg, fun σ2 x2 sb => ⟨?_, ?_⟩⟩
          · rw [wipe_eq sb hi, wipe_wipe]
          · split at e2
            · rename_i S2 et
              refine ⟨r.hide D, ev1, S, x2, .ok true, S2, et, fun r3 b H3 E3 s3 t3 q3 => ?_⟩
              cases q3
              rw [if_pos rfl]
              rw [← hr2] at E3
              obtain ⟨r4, rfl, C3⟩ := C'.step Y E3 s3 t3
              have x3 : Rel X c (r4.hide D) σ2 H3 ev1 S2 := by
                rw [← hr2] at x2
                exact x2.ext E3 s3 t3
              split at e2
              · rename_i z S4 ee
                refine ⟨r4.hide D, ev1, S2, x3, .ok (.d z), S4, ee, fun r5 v5 H5 E5 s5 t5 q5 => ?_⟩
                obtain ⟨r6, rfl, C5⟩ := C3.step Y E5 s5 t5
                split at e2
                · rename_i zs' S6 er
                  cases e2
                  obtain ⟨accV, hV, hR⟩ := C5.at_
                  have hlen : accV.length < sizeLine := by
                    rw [hR.length, sizeLine_eq]
                    have := congrArg List.length e3
                    simp at this
                    omega
                  have q5' : Rp X.K (r6.hide D) H5 v5 z := by
                    exact q5
                  exact ⟨accV, hV, hlen, r6, S4, acc ++ [z], zs', C5.put Y q5' hD accV hV, er, by rw [← e3]; simp⟩
                · cases e2
              · cases e2
            · rename_i S2 et
              refine ⟨r.hide D, ev1, S, x2, .ok false, S2, et, fun r3 b H3 E3 s3 t3 q3 => ?_⟩
              cases q3
              rw [if_neg (by decide)]
              rw [← hr2] at E3
              obtain ⟨r4, rfl, C3⟩ := C'.step Y E3 s3 t3
              exact ⟨r4, S2, acc, rest, C3, e2, e3⟩
            · cases e2
      · have e : i = ds.length := by omega
        subst e
        rw [List.drop_length] at e2
        cases e2
        rw [List.append_nil] at e3
        subst e3
        obtain ⟨sd, qd⟩ := C.done (s1.no hD)
        exact .inl ⟨Y.stop _ _ C.f, hq r (.ref D) H2 C.ext sd C.tabs qd⟩
    · cases eo
end
section
variable {X : Cx} {c : Cf} {W : WX} {pos : Pos}
theorem qe_compV {elt tg it : Expr} {ifs : List Expr} {scope : Scope} {own : List (Str × Nat)} {fi : Ev → M (List Vl)} {g : Vl → Ev → Option Ev} {t : Ev → M Bool} {el : Ev → M Vl} {is : List Nat} (hc : X.calm = true) (hN : X.N.Nodup) (hi : QIV X c W tg it fi) (ok : BlkOk X.N X.env.scope scope own)
    (hg : ∀ (s : Shared) (H : Hp) (C : Addr) (cl : List (Str × Addr)) (fp : List Addr), QG (X.blk s H scope (compEnvC scope cl C X.env) fp) c tg g is) (ht : ∀ (s : Shared) (H : Hp) (C : Addr) (cl : List (Str × Addr)) (fp : List Addr), QTs (X.blk s H scope (compEnvC scope cl C X.env) fp) c W0 ifs t)
    (he : ∀ (s : Shared) (H : Hp) (C : Addr) (cl : List (Str × Addr)) (fp : List Addr), QE (X.blk s H scope (compEnvC scope cl C X.env) fp) c W0 elt el) (his : ∀ i ∈ is, i ∈ own.map (·.2) := by decide) (hs : ∀ x, foldedSetIterable it X.env x = pure x := by intro _; rfl) :
    QE X c W (.ListComp elt [⟨tg, it, ifs, 0⟩] scope pos) (fCompV fi g t el (own.map (·.2))) := by
  refine pe_weak (pe_lc (wi := tX X c W (RIV (wg X) X.K X.mg) fi) (g := tG X c g is) (tt := tT X c W0 t) (te := tE X c W0 el) hc hN hi ok (fun s H C cl fp => pg_blk (hg s H C cl fp)) (fun s H C cl fp => pts_blk (ht s H C cl fp)) (fun s H C cl fp => pe_blk (he s H C cl fp)) hs) fun σ H Q h => ?_
  exact compV_weak his h
theorem qs_compV (i : Nat) {y : Str} {py : Pos} {elt tg it : Expr} {ifs : List Expr} {scope : Scope} {own : List (Str × Nat)} {pos spos : Pos} {fi : Ev → M (List Vl)} {g : Vl → Ev → Option Ev} {t : Ev → M Bool} {el : Ev → M Vl} {is : List Nat} (hc : X.calm = true) (hN : X.N.Nodup) (hi : QIV X c W tg it fi) (ok : BlkOk X.N X.env.scope scope own)
    (hg : ∀ (s : Shared) (H : Hp) (C : Addr) (cl : List (Str × Addr)) (fp : List Addr), QG (X.blk s H scope (compEnvC scope cl C X.env) fp) c tg g is) (ht : ∀ (s : Shared) (H : Hp) (C : Addr) (cl : List (Str × Addr)) (fp : List Addr), QTs (X.blk s H scope (compEnvC scope cl C X.env) fp) c W0 ifs t)
    (he : ∀ (s : Shared) (H : Hp) (C : Addr) (cl : List (Str × Addr)) (fp : List Addr), QE (X.blk s H scope (compEnvC scope cl C X.env) fp) c W0 elt el)
    (hsw : swapsWith (.ListComp elt [⟨tg, it, ifs, 0⟩] scope pos) (some (.Name y py)) spos.line X.env = pure true)
    (his : ∀ i ∈ is, i ∈ own.map (·.2) := by decide) (hy : X.N[i]? = some y := by rfl) (hyl : X.env.scope.names.lookup y = some .local := by rfl) (hs : ∀ x, foldedSetIterable it X.env x = pure x := by intro _; rfl) :
    QS X c W (.Assign [.Name y py] (.ListComp elt [⟨tg, it, ifs, 0⟩] scope pos) spos) (sSet i (fCompV fi g t el (own.map (·.2)))) := by
  refine ps_weak (ps_setLc (wi := tX X c W (RIV (wg X) X.K X.mg) fi) (g := tG X c g is) (tt := tT X c W0 t) (te := tE X c W0 el) hc hN hy hyl hsw hi ok (fun s H C cl fp => pg_blk (hg s H C cl fp)) (fun s H C cl fp => pts_blk (ht s H C cl fp)) (fun s H C cl fp => pe_blk (he s H C cl fp)) hs) fun D σ H ⟨r, ev, S, x, h⟩ => ?_
  have h := tX.of x (h.onE (R := Rw X.K X.mg) x) fun v H1 q => q
  refine compV_weak his ?_
  obtain ⟨r0, ev0, S0, x0, h⟩ := h
  exact ⟨r0, ev0, S0, x0, h.mono fun v H1 ⟨r1, S1, w, e1, x1, q1, h1⟩ => h1.nx (x1.set hy q1)⟩
end
/-! ### a list of defs -/
def allF : List Vl → Bool
  | [] => true
  | .f _ :: r => allF r
  | _ :: _ => false
def fFns (f : Ev → M (List Vl)) : Ev → M (List Vl) := fun ev => do
  let ws ← f ev
  if allF ws && decide (ws.length ≤ 1000) then pure ws else M.fail
inductive FnsV (mg : Str → Option Value) : List V → List Vl → Prop
  | nil : FnsV mg [] []
  | cons {x : Str} {a : Addr} {vs : List V} {ws : List Vl} : mg x = some (.ref a) → FnsV mg vs ws → FnsV mg (.ref a :: vs) (.f x :: ws)
theorem fnsV_of {K : PySem.W.Frag} {mg : Str → Option Value} {r : Lv} {H : Hp} : ∀ {vs : List V} {ws : List Vl}, RwAll K mg r H vs ws → allF ws = true → FnsV mg vs ws
  | _, _, .nil, _ => .nil
  | _, w :: ws, .cons h t, e => by
    cases w with
    | f x =>
      obtain ⟨a, h1, rfl⟩ := h
      exact .cons h1 (fnsV_of t e)
    | d _ => cases e
    | m _ => cases e
    | r _ _ => cases e
    | p _ _ => cases e
theorem FnsV.get {mg : Str → Option Value} {K : PySem.W.Frag} {r : Lv} {H : Hp} : ∀ {vs : List V} {ws : List Vl} {i : Nat} {w : Vl}, FnsV mg vs ws → ws[i]? = some w → ∃ v, vs[i]? = some v ∧ Rw K mg r H v w
  | _, _, _, _, .nil, e => by simp at e
  | _, _, 0, _, .cons h t, e => by simp at e; subst e; exact ⟨_, rfl, _, h, rfl⟩
  | _, _, i + 1, w, .cons h t, e => by
    obtain ⟨v, h1, h2⟩ := FnsV.get (K := K) (r := r) (H := H) (i := i) (w := w) t (by simpa using e)
    exact ⟨v, by simpa using h1, h2⟩
theorem FnsV.length {mg : Str → Option Value} {vs : List V} {ws : List Vl} (h : FnsV mg vs ws) : vs.length = ws.length := by
  induction h with
  | nil => rfl
  | cons _ _ ih => simp [ih]
theorem yields_fns {wd : Wg} {K : PySem.W.Frag} {mg : Str → Option Value} {l : Addr} {ds : List Vl} {vs : List V} (q : FnsV mg vs ds) : YieldsV wd K mg (Itl K l) ds (fun r H => SqF K r H l vs) where
  go := fun r H i h1 hi => ⟨vs, vs[i]'(by rw [q.length]; exact hi), h1.sq, List.getElem?_eq_getElem _⟩
  yld := fun r H S i d x H' h1 s hd ⟨e, y⟩ => by
    subst e
    obtain ⟨v, hv, qv⟩ := q.get (K := K) (r := r) (H := H') hd
    have := y vs h1.sq
    rw [hv] at this
    cases this
    exact ⟨s.refl, s, qv⟩
  stop := fun r H h1 => ⟨vs, h1.sq, by rw [q.length]; exact Nat.le_refl _⟩
  ext := fun lam r r' H H' h1 e => e.sqf h1
  hide := fun r H S D h1 s hD => h1.hide hD
  putH := fun r H S D xs h1 s hD => h1.putH s hD
theorem qi_fns {X : Cx} {c : Cf} {W : WX} {tg : Expr} {es : List Expr} {fs : Ev → M (List Vl)} {pos : Pos} (ha : QA X c W es fs) : QIV X c W tg (.List es pos) (fFns fs) := pi_weak (pi_sq (pe_lst ha)) fun σ H R h => by
  obtain ⟨r, ev, S, x, h⟩ := h
  refine tX.of x h.bind fun vs H1 ⟨r1, S1, ws, e1, s1, t1, q1, h1⟩ => ?_
  split at h1
  · rename_i hb
    rw [Bool.and_eq_true, decide_eq_true_eq] at hb
    refine ⟨by rw [q1.length, sizeLine_eq]; omega, fun p hp => ⟨p, rfl, .inl ⟨⟨vs, .inl (.inl upd_same)⟩, ?_⟩⟩⟩
    exact h1.new rfl s1 t1 hp ⟨_, yields_fns (fnsV_of q1 hb.1), .inl ⟨upd_same, s1.no hp⟩⟩
  · exact (fail_run h1).elim
theorem DefAt.glo {K : PySem.W.Frag} {mg : Str → Option Value} {x : Str} {st : Stmt} {ps : List Str} (D : DefAt K mg x st ps) : ∃ a, mg x = some (.ref a) := by
  obtain ⟨f, fd, _, h, _⟩ := D
  exact ⟨f, h⟩
def RefN (K : PySem.W.Frag) (mg : Str → Option Value) (x : Str) (st : Stmt) (a : Str) (Ng : List Str) (nm : List (Str × Str)) : Prop := ∃ l, nmOf l = nm ∧ RefAt K mg x st a Ng l
theorem qe_refN {X : Cx} {c : Cf} {W : WX} {x a : Str} {st : Stmt} {Ng : List Str} {nm : List (Str × Str)} {C P : Addr} {k : Nat} {body : Expr} {scope : Scope} {p lpos pos : Pos} {params : Arguments} {f : Ev → M Vl} (F : RefN X.K X.mg x st a Ng nm) (hg : Gl X x)
    (hl : c.lam = true) (TB : TabB X.base X.mg C P) (hcode : X.env.code = .ref C) (hT : c.T = [(P, X.env.qual ++ "<lambda>")]) (hr : Room (k + 2) X.A) (L : LamS X.env.scope scope)
    (hbody : ∀ (A : Around) (outer : List Env) (s : Shared) (H : Hp) (E : XK) (f0 c0 : Addr), Room k (A.deeper (lamEnv X scope s.heap.objs.size f0 c0)) → QE (lamCx X A outer s H E scope f0 c0) c (fun cls d _ H => E cls d H) body f)
    (hdef : defaultsOf params X.env = ([], []) := by rfl) (hbind : ∀ (q : Str) (cl : List (Str × Addr)) (pm cv ctv : Value), bindArgs (PySem.W.kla_fn "<lambda>" q params body scope cl pm cv ctv) ⟨[], []⟩ = pure [] := by intros; rfl)
    (hdb : (x == ("__debug__" : Str)) = false := by decide) (hd : (a == ("__debug__" : Str)) = false := by decide) (hcd : (a == ("__classdict__" : Str)) = false := by decide) :
    QE X c W (.Call (.Name x p) [.Lambda params body scope lpos] [] pos) (fRefused nm f) := by
  obtain ⟨l, rfl, F⟩ := F
  exact qe_refused F hg hl TB hcode hT hr L hbody hdef hbind hdb hd hcd
end DD
/-! part DZZ -/
set_option Elab.async false
set_option linter.all false
set_option maxRecDepth 100000
set_option maxHeartbeats 4000000
namespace DD
open PySem PySem.Spec PyProof.Rows L2 LamX

/-! ### from a head's facts to the text's -/
section
variable {K : PySem.W.Frag} {h : Heap} {mg : Str → Option Value} {w : World}
theorem fun_of {x : Str} {st : Stmt} {f : Addr} {fd : FuncData} (F : FunD K x x (defArgs st) (defBody st) (defScope st) [] [] f fd) : Fun K x x st f fd := by
  obtain ⟨oc, od, dV, kV, doc, pm, an, cdv, ct, osl, e, lk, hc, hD, hK⟩ := F.ex
  rcases hD with ⟨_, rfl⟩ | ⟨z, _⟩
  · exact ⟨⟨oc, od, kV, doc, pm, an, cdv, ct, osl, e, lk, hc⟩, F.kp⟩
  · exact absurd rfl z
theorem defAt_of (X : K.In h) (G : h.Ns mainGlobals mg) {x : Str} {st : Stmt} {ps : List Str} (F : ∃ fd, FunD K x x (defArgs st) (defBody st) (defScope st) [] [] (He.fAd K (x, none)) fd) (c : (He.Fa.glo x).ok K = true)
    (hb : ∀ (kV doc pm : Value) (an : Option Addr) (cdv ct : Value) (us : List Value), us.length = ps.length → bindArgs (PySem.W.fnOf x x (defArgs st) (defBody st) (defScope st) .none kV doc pm an cdv ct) ⟨us, []⟩ = pure (ps.zip us)) : DefAt K mg x st ps := by
  obtain ⟨fd, F⟩ := F
  exact ⟨_, fd, fun_of F, He.glo_ok X G c, F.bindsN hb⟩
theorem exo_of (X : K.In h) (G : h.Ns mainGlobals mg) {x : Str} (c : (He.Fa.glo x).ok K = true) (d : (He.Fa.exc x).ok K = true) : Exo K mg x := by
  obtain ⟨h1, h2, h3, h4⟩ := He.exc_ok d
  exact ⟨He.ga K x, He.glo_ok X G c, h1, h2, h3, h4⟩
theorem find_none {z : Str} {hs : Params} : ∀ {l : List DictEntry} {ks : List Str}, l.map He.keyOf = He.keysIn hs ks → z ∉ ks → l.find? (·.key.isStr z) = none ∧ l.any (·.refKey) = false
  | [], _, _, _ => ⟨rfl, rfl⟩
  | e :: l, [], h, _ => by cases h
  | e :: l, k :: ks, h, hz => by
    have h1 : He.keyOf e :: l.map He.keyOf = some (k, PyData.keyHash hs k) :: He.keysIn hs ks := h
    injection h1 with h2 h3
    obtain ⟨g1, g2⟩ := find_none h3 fun m => hz (List.mem_cons_of_mem _ m)
    unfold He.keyOf at h2
    split at h2
    · rename_i x t q
      have h4 := (Prod.mk.inj (Option.some.inj h2)).1
      subst h4
      have n1 : e.key.isStr z = false := by
        rw [q]
        show (x == z) = false
        exact beq_eq_false_iff_ne.mpr fun e => hz (e ▸ List.mem_cons_self)
      refine ⟨by rw [List.find?_cons, n1]; exact g1, ?_⟩
      rw [List.any_cons, g2, Bool.or_false]
      unfold DictEntry.refKey
      rw [q]
    · cases h2
theorem lookup_some {q : Str × Str} : ∀ {tb : List (Str × Str)}, q ∈ tb → (tb.lookup q.1).isSome = true
  | (k, v) :: tb, hq => by
    rw [List.lookup_cons]
    cases hb : (q.1 == k) with
    | true => rfl
    | false =>
      rcases List.mem_cons.mp hq with z | z
      · rw [z] at hb; simp at hb
      · exact lookup_some z
theorem tab_of (X : K.In h) (G : h.Ns mainGlobals mg) {x : Str} {ks : List Str} {tb : List (Str × Str)} (c : (He.Fa.glo x).ok K = true) (d : He.dicW K (He.ga K x) = some (He.keysIn w.params ks)) (v : He.valsB K (He.ga K x) (tb.map fun q => (q.1, He.Dv.glo q.2)) = true)
    (hk : tb.map (·.1) = ks) (hg : ∀ q ∈ tb, mg q.2 = some (.ref (He.ga K q.2))) : Tab K w mg x tb := by
  obtain ⟨es, n, D⟩ := He.dicW_ok d
  refine ⟨He.ga K x, es, n, He.glo_ok X G c, D, fun z => ?_⟩
  cases e : tb.lookup z with
  | some f =>
    have hm := PySem.mem_of_lookup e
    obtain ⟨u, h1, h2⟩ := He.valsB_ok v (q := (z, He.Dv.glo f)) (List.mem_map.mpr ⟨(z, f), hm, rfl⟩)
    have h3 : u = .ref (He.ga K f) := h2
    exact ⟨_, h1, _, by rw [h3], hg _ hm⟩
  | none =>
    have hz : z ∉ ks := fun hm => by
      rw [← hk] at hm
      obtain ⟨q, hq, rfl⟩ := List.mem_map.mp hm
      have : (tb.lookup q.1).isSome = true := by
        exact lookup_some hq
      rw [e] at this
      cases this
    refine ⟨none, ?_, rfl⟩
    unfold He.dicW at d
    unfold PySem.W.nsIn
    obtain ⟨lk, _⟩ := D
    rw [lk] at d ⊢
    dsimp only at d ⊢
    split at d
    · obtain ⟨g1, g2⟩ := find_none (Option.some.inj d) hz
      rw [g1, g2]
      rfl
    · cases d
end
theorem says_tab {fa : List He.Fa} {fn : List He.DefD} {ts : List He.Tab} {w : World} {K : PySem.W.Frag} (c : He.SaysT fa fn ts w K) (i : Nat) {t : He.Tab} (h : ts[i]? = some t := by rfl) : He.dicW K (t.1 K) = some (He.keysIn w.params t.2) := by
  have e : ts.map (fun t => He.dicW K (t.1 K)) = ts.map fun t => some (He.keysIn w.params t.2) := congrArg (fun z : He.AlT => z.2) c
  have e2 := congrArg (fun l => l[i]?) e
  simp only [List.getElem?_map, h, Option.map_some] at e2
  exact Option.some.inj e2
theorem all_nil {α : Type} {p : α → Prop} : ∀ q ∈ ([] : List α), p q := fun q h => by cases h
theorem all_cons {α : Type} {p : α → Prop} {a : α} {l : List α} (h : p a) (t : ∀ q ∈ l, p q) : ∀ q ∈ a :: l, p q := fun q hq => by
  rcases List.mem_cons.mp hq with e | e
  · rw [e]; exact h
  · exact t q e
/-- the script as the reading sees it -/
theorem rp_script {K : PySem.W.Frag} {H : Hp} {a : Addr} {ns : List Int} (h : SqL K H a (ns.map V.int)) : Rp K ⟨[], []⟩ H (.ref a) (.list (ns.map PyData.int)) := by
  have all : ∀ ns : List Int, RpAll K ⟨[], []⟩ H (ns.map V.int) (ns.map PyData.int) := fun ns => by
    induction ns with
    | nil => exact .nil
    | cons n ns ih => exact .cons (.int n) ih
  refine .lst ?_ (all ns)
  rcases h with (h | ⟨o, h⟩) | h
  · exact .inl ⟨h, by simp [Lv.no]⟩
  · exact .inr (.inl ⟨o, h⟩)
  · exact .inr (.inr h)
theorem sto_nil {wd : Wg} {K : PySem.W.Frag} {H : Hp} : StoRel wd K ⟨[], []⟩ H [] := ⟨List.nodup_nil, rfl, fun n a o h => (by simp at h), fun a h => (by cases h), fun a h => (by cases h)⟩
end DD
/-! part EA -/
set_option Elab.async false
set_option linter.all false
set_option maxRecDepth 100000
set_option maxHeartbeats 4000000
namespace DD
open PySem PySem.Spec PyProof.Rows L2 LamX

/-! ### bits -/
section
variable {X : Cx}
def andP : PyData → PyData → Option PyData
  | .int i, .int j => some (.int (Builtin.bitAnd i j))
  | _, _ => none
theorem q_and : OpQ X (binaryOp .BitAnd) andP := by
  refine ⟨_, op_and, fun r H S x y a b z Q s qa qb e A => ?_⟩
  cases a <;> cases b <;> simp only [andP] at e <;> try cases e
  cases qa.int; cases qb.int
  exact ⟨_, _, rfl, rfl, A.here s (.int _)⟩
def orP : PyData → PyData → Option PyData
  | .int i, .int j => some (.int (Builtin.bitOr i j))
  | _, _ => none
theorem q_or : OpQ X (binaryOp .BitOr) orP := by
  refine ⟨_, op_or, fun r H S x y a b z Q s qa qb e A => ?_⟩
  cases a <;> cases b <;> simp only [orP] at e <;> try cases e
  cases qa.int; cases qb.int
  exact ⟨_, _, rfl, rfl, A.here s (.int _)⟩
def shlP : PyData → PyData → Option PyData
  | .int i, .int j => if 0 ≤ j ∧ j ≤ 1000 ∧ i.natAbs < 2 ^ 60 then some (.int (i * 2 ^ j.toNat)) else none
  | _, _ => none
theorem q_shl : OpQ X (binaryOp .LShift) shlP := by
  refine ⟨_, op_shl, fun r H S x y a b z Q s qa qb e A => ?_⟩
  cases a <;> cases b <;> simp only [shlP] at e <;> try cases e
  split at e
  · rename_i h
    cases e
    cases qa.int; cases qb.int
    exact ⟨_, _, rfl, rfl, ⟨h.1, by omega, by omega⟩, A.here s (.int _)⟩
  · cases e
def shrP : PyData → PyData → Option PyData
  | .int i, .int j => if 0 ≤ j then some (.int (i / 2 ^ j.toNat)) else none
  | _, _ => none
theorem q_shr : OpQ X (binaryOp .RShift) shrP := by
  refine ⟨_, op_shr, fun r H S x y a b z Q s qa qb e A => ?_⟩
  cases a <;> cases b <;> simp only [shrP] at e <;> try cases e
  split at e
  · rename_i h
    cases e
    cases qa.int; cases qb.int
    exact ⟨_, _, rfl, rfl, h, A.here s (.int _)⟩
  · cases e
end

/-! ### instances -/
/-- an instance's place -/
def insAt (c : Str) : Vl → M (Nat × List (Str × Vl))
  | .m n => fun S => match S[n]? with
    | some (.o c' gs) => if c' = c then some (.ok (n, gs), S) else none
    | _ => none
  | _ => M.fail
def putG (f : Str) (v : Vl) : List (Str × Vl) → List (Str × Vl)
  | [] => [(f, v)]
  | (g, x) :: r => if g = f then (g, v) :: r else (g, x) :: putG f v r
/-- what an instance, a list may hold -/
def heldOf : Vl → Option Vl
  | .d x => some (.d x)
  | .m n => some (.m n)
  | .p a b => some (.p a b)
  | _ => none
def ClsN (K : PySem.W.Frag) (mg : Str → Option Value) (c : Str) : Prop := ∃ C, mg c = some (.ref C) ∧ Cls K C
def NoAt (K : PySem.W.Frag) (mg : Str → Option Value) (c f : Str) : Prop := ∃ C, mg c = some (.ref C) ∧ NoAttr K C f
/-- e.f -/
def fFld (c f : Str) (fo : Ev → M Vl) : Ev → M Vl := fun ev => do
  let x ← fo ev
  let p ← insAt c x
  M.lift (p.2.lookup f)
def putI (n : Nat) (c : Str) (gs : List (Str × Vl)) : M Vl := fun S => some (.ok (.d .none), S.set n (.o c gs))
/-- o.f = e -/
def sFldP (c f : Str) (fo fv : Ev → M Vl) : Ev → M Vl := fun ev => do
  let v ← fv ev
  let x ← fo ev
  let u ← M.lift (heldOf v)
  let p ← insAt c x
  if p.2.length < 1000 then putI p.1 c (putG f u p.2) else M.fail
section
variable {α β : Type} {X : Cx} {c : Cf} {W : WX} {r r1 : Lv} {σ : L2.St} {H H1 : Hp} {S S1 : Sto} {ev : Ev}
theorem insAt_run {R : Lv → Hp → β → α → Prop} {cl : Str} {g : Nat × List (Str × Vl) → M α} {w : Vl} {v : V} {Q : β → Hp → Prop} (h : tRun X c W R r σ H S (insAt cl w >>= g) Q) (s : StoRel (wg X) X.K r H S) (q : Rw X.K X.mg r H v w) :
    ∃ n a gs C dx fs, r.st[n]? = some a ∧ v = .ref a ∧ S[n]? = some (.o cl gs) ∧ X.mg cl = some (.ref C) ∧ H a = some (.ins C dx fs) ∧ RvFs X.K r H fs gs ∧ w = .m n ∧ tRun X c W R r σ H S (g (n, gs)) Q := by
  cases w with
  | d x => obtain ⟨_, _, e, _⟩ := h; cases e
  | f x => obtain ⟨_, _, e, _⟩ := h; cases e
  | r lo hi => obtain ⟨_, _, e, _⟩ := h; cases e
  | p a b => obtain ⟨_, _, e, _⟩ := h; cases e
  | m n =>
    obtain ⟨a, h1, rfl⟩ := q
    obtain ⟨o, S', e, h⟩ := h
    rw [M.bind_run] at e
    have e2 : insAt cl (.m n) S = match S[n]? with
      | some (.o c' gs) => if c' = cl then some (.ok (n, gs), S) else none
      | _ => none := rfl
    cases q : S[n]? with
    | none => rw [e2, q] at e; cases e
    | some u =>
      cases u with
      | o c' gs =>
        rw [e2, q] at e
        dsimp only at e
        by_cases hc : c' = cl
        · rw [if_pos hc] at e
          subst hc
          obtain ⟨C, dx, fs, m, h2, h3⟩ := s.ob n a _ h1 q
          exact ⟨n, a, gs, C, dx, fs, h1, rfl, q, m, h2, h3, rfl, o, S', e, h⟩
        · rw [if_neg hc] at e; cases e
      | l xs => rw [e2, q] at e; cases e
      | k xs => rw [e2, q] at e; cases e
      | q xs => rw [e2, q] at e; cases e
      | w xs => rw [e2, q] at e; cases e
      | z xs => rw [e2, q] at e; cases e
theorem RvFs.look {K : PySem.W.Frag} {fs : List (Str × V)} {gs : List (Str × Vl)} (h : RvFs K r H fs gs) (f : Str) : (fs.lookup f = none ∧ gs.lookup f = none) ∨ ∃ v w, fs.lookup f = some v ∧ gs.lookup f = some w ∧ Rv K r H v w := by
  induction h with
  | nil => exact .inl ⟨rfl, rfl⟩
  | @cons x v w fs gs h _ ih =>
    by_cases hx : (f == x) = true
    · exact .inr ⟨v, w, by simp [List.lookup, hx], by simp [List.lookup, hx], h⟩
    · have hx' : (f == x) = false := by simpa using hx
      rcases ih with ⟨a, b⟩ | ⟨v', w', a, b, q⟩
      · exact .inl ⟨by simp [List.lookup, hx', a], by simp [List.lookup, hx', b]⟩
      · exact .inr ⟨v', w', by simp [List.lookup, hx', a], by simp [List.lookup, hx', b], q⟩
theorem RvFs.length {K : PySem.W.Frag} {fs : List (Str × V)} {gs : List (Str × Vl)} (h : RvFs K r H fs gs) : fs.length = gs.length := by
  induction h with
  | nil => rfl
  | cons _ _ ih => simp [ih]
theorem RvFs.put {K : PySem.W.Frag} {fs : List (Str × V)} {gs : List (Str × Vl)} (h : RvFs K r H fs gs) {v : V} {w : Vl} (q : Rv K r H v w) (f : Str) : RvFs K r H (putF f v fs) (putG f w gs) := by
  induction h with
  | nil => exact .cons q .nil
  | @cons x v' w' fs gs h t ih =>
    unfold putF putG
    split
    · exact .cons q t
    · exact .cons h ih
theorem held_ok {w u : Vl} {v : V} {K : PySem.W.Frag} {mg : Str → Option Value} (q : Rw K mg r H v w) (h : heldOf w = some u) : Rv K r H v u := by
  cases w with
  | d x => cases h; exact q
  | m n => cases h; exact q
  | f n => cases h
  | r lo hi => cases h
  | p a b => cases h; exact q
end
section
variable {X : Cx} {c : Cf} {W : WX} {e o value : Expr} {fe fo fv : Ev → M Vl} {pos pos' : Pos}
theorem qe_fld {cl f : Str} (hc : ClsN X.K X.mg cl) (hn : NoAt X.K X.mg cl f) (ho : QE X c W e fe) (hb : attributeBase e f X.env (eval e X.env) = eval e X.env := by rfl) : QE X c W (.Attribute e f pos) (fFld cl f fe) := by
  refine pe_weak (pe_fld ho hb) fun σ H Q ⟨r, ev, S, x, h⟩ => ?_
  refine tX.of x h.bind fun v H1 ⟨r1, S1, w, e1, s1, t1, q1, h1⟩ => ?_
  obtain ⟨n, a, gs, C, dx, fs, ra, rfl, sn, mc, ha, hr, _, h2⟩ := insAt_run h1 s1 q1
  obtain ⟨C1, m1, hC⟩ := hc
  obtain ⟨C2, m2, hN⟩ := hn
  rw [mc] at m1 m2
  cases m1; cases m2
  rcases hr.look f with ⟨_, g⟩ | ⟨v, w, g1, g2, q⟩
  · obtain ⟨_, _, e, _⟩ := h2
    rw [g] at e
    cases e
  · refine ⟨a, C, dx, fs, v, rfl, ha, hC, hN, g1, ?_⟩
    obtain ⟨o, S', e, h⟩ := h2
    rw [g2] at e
    cases e
    exact h r1 v H1 s1.refl s1 t1 q.rw
theorem StoRel.putI {wd : Wg} {K : PySem.W.Frag} {r : Lv} {H : Hp} {S : Sto} {n : Nat} {p C dx : Addr} {cl : Str} {fs : List (Str × V)} {gs : List (Str × Vl)} (s : StoRel wd K r H S) (hp : r.st[n]? = some p) (nf : NoF H p) (hm : wd.mg cl = some (.ref C)) (h : RvFs K r H fs gs) : StoRel wd K r (upd H p (.ins C dx fs)) (S.set n (.o cl gs)) :=
  s.putO hp nf fun H' E e => ⟨C, dx, fs, hm, e, h.ext E⟩
theorem qs_fld {cl f : Str} (hc : ClsN X.K X.mg cl) (hn : NoAt X.K X.mg cl f) (ho : QE X c W o fo) (hv : QE X c W value fv) (hs : swapsWith value (some (.Attribute o f pos')) pos.line X.env = pure false := by rfl) : QS X c W (.Assign [.Attribute o f pos'] value pos) (sExpr (sFldP cl f fo fv)) := by
  refine ps_weak (ps_fld ho hv hs) fun D σ H ⟨r, ev, S, x, h⟩ => ?_
  have h := h.onE (R := Rw X.K X.mg) x
  refine tX.of x h.bind fun y H1 ⟨r1, S1, w, e1, s1, t1, q1, h1⟩ => ?_
  have x1 := x.ext e1 s1 t1
  refine tX.of x1 h1.bind fun ov H2 ⟨r2, S2, k, e2, s2, t2, q2, h2⟩ => ?_
  obtain ⟨u, eu, h3⟩ := lift_run h2
  obtain ⟨n, a, gs, C, dx, fs, ra, rfl, sn, mc, ha, hr, _, h4⟩ := insAt_run h3 s2 q2
  dsimp only at h4
  split at h4
  · rename_i hz
    obtain ⟨C1, m1, hC⟩ := hc
    obtain ⟨C2, m2, hN⟩ := hn
    rw [mc] at m1 m2
    cases m1; cases m2
    refine ⟨a, C, dx, fs, rfl, ha, hC, hN, by rw [hr.length]; exact hz, ?_⟩
    obtain ⟨o', S', e, h5⟩ := h4
    cases e
    have E : Ext false r2 r2 H2 (upd H2 a (.ins C dx (putF f y fs))) := Ext.put s2.mu (List.mem_of_getElem? ra) (nofI ha)
    obtain ⟨r', S', w', E', x', _, q'⟩ := h5 r2 .non _ E.up (s2.putI ra (nofI ha) mc (hr.put ((held_ok q1 eu).ext e2) f)) (tabs_ext E t2) (show Rp X.K _ _ _ _ from .non)
    exact q'.nx x'
  · exact (fail_run h4).elim
/-! a method, a new instance: what is raised there is no answer -/
/-- at class c stands a method m of n parameters, self too, read as mm -/
def HasM (P : Program) (w : World) (K : PySem.W.Frag) (mg : Str → Option Value) (base : Heap) (k : Nat) (c m : Str) (n : Nat) (mm : List Vl → M Vl) : Prop :=
  ∃ C f fd ps, mg c = some (.ref C) ∧ Cls K C ∧ Meth K C m f ∧ Binds K fd ps [] ∧ FnOk P w K mg base (L2.CX P w) k f fd ps (spM w K mg n mm)
/-- the class c is made by an __init__ of n parameters, self too, read as mm -/
def HasI (P : Program) (w : World) (K : PySem.W.Frag) (mg : Str → Option Value) (base : Heap) (k : Nat) (c : Str) (n : Nat) (mm : List Vl → M Vl) : Prop :=
  ∃ C f fd ps, mg c = some (.ref C) ∧ Mk K C f ∧ Binds K fd ps [] ∧ FnOk P w K mg base (L2.CX P w) k f fd ps (spM w K mg n mm)
theorem passF : Passes (L2.CX X.prog X.w) X (fun _ _ _ => False) := fun _ _ _ _ _ _ _ ⟨_, _, _, _, _, _, _, _, _, _, _, _, hE⟩ => hE.elim
/-- only an answer -/
def okM (m : M Vl) : M Vl := fun S => match m S with
  | some (.ok w, S') => some (.ok w, S')
  | _ => none
theorem sp_ok {r : Lv} {σ : L2.St} {H : Hp} {S : Sto} {n : Nat} {m : List Vl → M Vl} {vs : List V} {ws : List Vl} {Q : VK} (h : tRun X c W (Rw X.K X.mg) r σ H S (okM (m ws)) Q) (s : StoRel (wg X) X.K r H S) (t : Tabs c.T H) (q : RwAll X.K X.mg r H vs ws) (hn : ws.length = n) : spM X.w X.K X.mg n m vs H Q (fun _ _ _ => False) := by
  obtain ⟨o, S', e, h⟩ := h
  unfold okM at e
  split at e
  · rename_i w S2 e2
    cases e
    exact ⟨by rw [q.length]; exact hn, r, S, ws, _, _, s, q, e2, fun r' v H' E s' q' => h r' v H' E.up s' (tabs_ext E t) q'⟩
  · cases e
def fMeth (cl m : Str) (n : Nat) (mm : List Vl → M Vl) (fo : Ev → M Vl) (fs : Ev → M (List Vl)) : Ev → M Vl := fun ev => do
  let x ← fo ev
  let p ← insAt cl x
  if (p.2.lookup m).isNone then do
    let ws ← fs ev
    if ws.length + 1 = n then okM (mm (x :: ws)) else M.fail
  else M.fail
theorem qe_meth {pl : Sem Bool} {cl m : Str} {k n : Nat} {mm : List Vl → M Vl} {apos : Pos} {es : List Expr} {fs : Ev → M (List Vl)} (F : HasM X.prog X.w X.K X.mg X.base k cl m n mm) (hr : Room k X.A) (ho : QE X c W o fo) (ha : QA X c W (e :: es) fs)
    (hst : starEach (e :: es) X.env = (false, eval e X.env) :: starEach es X.env := by rfl) (hpl : (backTo pos (starEach es X.env)).any (·.1) = false := by rfl)
    (ht : eval (.Call (.Attribute o m apos) (e :: es) [] pos) X.env = (do
      let ov ← eval o X.env
      standAt apos.atName
      let (f, first) ← holding [ov] (getMethod ov m pl)
      callWith pos f first (backTo pos (starEach (e :: es) X.env)) (backToKw pos (keywordEach [] X.env))) := by rfl) :
    QE X c W (.Call (.Attribute o m apos) (e :: es) [] pos) (fMeth cl m n mm fo fs) := by
  obtain ⟨C, f, fd, ps, mC, hC, hM, hB, hF⟩ := F
  refine pe_weak (pe_meth ho hC hM hF hr hB .nil passF ha hst hpl ht) fun σ H Q ⟨r, ev, S, x, h⟩ => ?_
  refine tX.of x h.bind fun v H1 ⟨r1, S1, w, e1, s1, t1, q1, h1⟩ => ?_
  have x1 := x.ext e1 s1 t1
  obtain ⟨i, a, gs, C', dx, ff, ra, rfl, sn, mc, hH, hr', _, h2⟩ := insAt_run h1 s1 q1
  rw [mC] at mc
  cases mc
  dsimp only at h2
  split at h2
  · rename_i hnn
    refine ⟨a, dx, ff, rfl, hH, ?_, ?_⟩
    · rcases hr'.look m with ⟨g, _⟩ | ⟨_, w2, _, g, _⟩
      · exact g
      · rw [g] at hnn; cases hnn
    · refine tX.of x1 h2.bind fun vs H2 ⟨r2, S2, ws, e2, s2, t2, q2, h3⟩ => ?_
      split at h3
      · rename_i hl
        rw [List.append_nil]
        exact sp_ok (ws := w :: ws) h3 s2 t2 (.cons (q1.ext e2) q2) hl
      · exact (fail_run h3).elim
  · exact (fail_run h2).elim
theorem qe_meth0 {pl : Sem Bool} {cl m : Str} {k n : Nat} {mm : List Vl → M Vl} {apos : Pos} (F : HasM X.prog X.w X.K X.mg X.base k cl m n mm) (hr : Room k X.A) (ho : QE X c W o fo)
    (ht : eval (.Call (.Attribute o m apos) [] [] pos) X.env = (do
      let ov ← eval o X.env
      standAt apos.atName
      let (f, first) ← holding [ov] (getMethod ov m pl)
      callWith pos f first (backTo pos (starEach [] X.env)) (backToKw pos (keywordEach [] X.env))) := by rfl) :
    QE X c W (.Call (.Attribute o m apos) [] [] pos) (fMeth cl m n mm fo fNil) := by
  obtain ⟨C, f, fd, ps, mC, hC, hM, hB, hF⟩ := F
  refine pe_weak (pe_meth0 ho hC hM hF hr hB .nil passF ht) fun σ H Q ⟨r, ev, S, x, h⟩ => ?_
  refine tX.of x h.bind fun v H1 ⟨r1, S1, w, e1, s1, t1, q1, h1⟩ => ?_
  have x1 := x.ext e1 s1 t1
  obtain ⟨i, a, gs, C', dx, ff, ra, rfl, sn, mc, hH, hr', _, h2⟩ := insAt_run h1 s1 q1
  rw [mC] at mc
  cases mc
  dsimp only at h2
  split at h2
  · rename_i hnn
    refine ⟨a, dx, ff, rfl, hH, ?_, ?_⟩
    · rcases hr'.look m with ⟨g, _⟩ | ⟨_, w2, _, g, _⟩
      · exact g
      · rw [g] at hnn; cases hnn
    · have h3 : tRun X c W (Rw X.K X.mg) r1 σ H1 S1 (if ([] : List Vl).length + 1 = n then okM (mm (w :: [])) else M.fail) Q := h2
      split at h3
      · rename_i hl
        exact sp_ok (ws := w :: []) h3 s1 t1 (.cons q1 .nil) hl
      · exact (fail_run h3).elim
  · exact (fail_run h2).elim
def newI (cl : Str) (mm : List Vl → M Vl) (ws : List Vl) : M Vl := fun S => match mm (.m S.length :: ws) (S ++ [.o cl []]) with
  | some (.ok (.d .none), S') => some (.ok (.m S.length), S')
  | _ => none
/-- C(..) -/
def fNew (cl : Str) (n : Nat) (mm : List Vl → M Vl) (fs : Ev → M (List Vl)) : Ev → M Vl := fun ev => do
  let ws ← fs ev
  if ws.length + 1 = n then newI cl mm ws else M.fail
theorem qe_new {cl : Str} {k n : Nat} {mm : List Vl → M Vl} {p : Pos} {es : List Expr} {fs : Ev → M (List Vl)} (F : HasI X.prog X.w X.K X.mg X.base k cl n mm) (hr : Room (k + 1) X.A) (hg : Gl X cl) (ha : QA X c W (e :: es) fs) (hdb : (cl == ("__debug__" : Str)) = false := by decide)
    (he : starEach (e :: es) X.env = (false, eval e X.env) :: starEach es X.env := by rfl) (hpl : (backTo pos (starEach es X.env)).any (·.1) = false := by rfl) : QE X c W (.Call (.Name cl p) (e :: es) [] pos) (fNew cl n mm fs) := by
  obtain ⟨C, f, fd, ps, mC, hM, hB, hF⟩ := F
  refine pe_weak (pe_make hM hF hr hg mC hB .nil passF ha hdb he hpl) fun σ H Q ⟨r, ev, S, x, h⟩ => ?_
  refine tX.of x h.bind fun vs H1 ⟨r1, S1, ws, e1, s1, t1, q1, h1⟩ => ?_
  intro a dx ha' hdx hne
  split at h1
  · rename_i hl
    obtain ⟨o, S', e, h2⟩ := h1
    unfold newI at e
    have E1 : Ext false r1 r1 H1 (upd H1 dx (.own a)) := Ext.new s1.mu hdx
    have s2 := s1.new (o := .own a) hdx
    have ha2 : upd H1 dx (.own a) a = none := by rw [upd_ne (Ne.symm hne)]; exact ha'
    have E2 : Ext false r1 ⟨r1.st ++ [a], r1.hid⟩ (upd H1 dx (.own a)) (upd (upd H1 dx (.own a)) a (.ins C dx [])) := Ext.newL s2.mu ha2
    have s3 : StoRel (wg X) X.K ⟨r1.st ++ [a], r1.hid⟩ (upd (upd H1 dx (.own a)) a (.ins C dx [])) (S1 ++ [.o cl []]) := s2.newO ha2 fun r' H' E e => ⟨C, dx, [], mC, e, .nil⟩
    have E12 := E1.trans E2
    have q3 : RwAll X.K X.mg ⟨r1.st ++ [a], r1.hid⟩ (upd (upd H1 dx (.own a)) a (.ins C dx [])) (.ref a :: vs) (.m S1.length :: ws) := .cons ⟨a, by rw [← s1.len]; simp, rfl⟩ (q1.ext E12)
    rw [List.append_nil]
    cases em : mm (.m S1.length :: ws) (S1 ++ [.o cl []]) with
    | none => rw [em] at e; cases e
    | some z =>
      obtain ⟨o2, S2⟩ := z
      rw [em] at e
      cases o2 with
      | error y => cases e
      | ok w =>
        cases w with
        | d dd =>
          cases dd with
          | none =>
            cases e
            refine ⟨by simp [q1.length]; exact hl, _, _, _, _, _, s3, q3, em, fun r' v H' E s' q' => ?_⟩
            have q4 : Rp X.K r' H' v .none := q'
            cases q4
            refine ⟨rfl, h2 r' (.ref a) H' (E12.trans E).up s' (tabs_ext (E12.trans E) t1) ⟨a, ?_, rfl⟩⟩
            exact E.stk _ _ (by rw [← s1.len]; simp)
          | _ => cases e
        | _ => cases e
  · exact (fail_run h1).elim
end
end DD
/-! part EB -/
set_option Elab.async false
set_option linter.all false
set_option maxRecDepth 100000
set_option maxHeartbeats 4000000
namespace DD
open PySem PySem.Spec PyProof.Rows L2 LamX

/-! ### walks of what may be live: the item at a place, read from the store as it stands -/
abbrev Rdr := Sto → Nat → Option (Option Vl)
structure YieldsM (wd : Wg) (K : PySem.W.Frag) (mg : Str → Option Value) (J : It) (ρ : Rdr) (F : Lv → Hp → Prop) : Prop where
  go : ∀ r H S i w, F r H → StoRel wd K r H S → ρ S i = some (some w) → J.go i H
  yld : ∀ r H S i w x H', F r H → StoRel wd K r H S → ρ S i = some (some w) → J.yld i H x H' → Ext false r r H H' ∧ StoRel wd K r H' S ∧ Rw K mg r H' x w
  stop : ∀ r H S i, F r H → StoRel wd K r H S → ρ S i = some none → J.stop i H
  ext : ∀ lam r r' H H', F r H → Ext lam r r' H H' → F r' H'
  hide : ∀ r H S D, F r H → StoRel wd K r H S → H D = none → F (r.hide D) (upd H D (.lst []))
  putH : ∀ r H S D xs, F r H → StoRel wd K r H S → D ∈ r.hid → F r (upd H D (.lst xs))
def RIM (wd : Wg) (K : PySem.W.Frag) (mg : Str → Option Value) : Lv → Hp → It → Rdr → Prop := fun r H J ρ => ∃ F, YieldsM wd K mg J ρ F ∧ F r H
def QIM (X : Cx) (c : Cf) (W : WX) (tg it : Expr) (f : Ev → M Rdr) : Prop := PI X tg it (tX X c W (RIM (wg X) X.K X.mg) f)
def loopM (ρ : Rdr) (g : Vl → Ev → Option Ev) (fb : SM) : Nat → Nat → SM
  | 0, _ => fun _ _ => none
  | n + 1, i => fun ev S => match ρ S i with
    | none => none
    | some none => some (.nx, ev, S)
    | some (some w) => match g w ev with
      | none => none
      | some ev1 => match fb ev1 S with
        | none => none
        | some (.nx, ev2, S2) => loopM ρ g fb n (i + 1) ev2 S2
        | some (.ct, ev2, S2) => loopM ρ g fb n (i + 1) ev2 S2
        | some (.bk, ev2, S2) => some (.nx, ev2, S2)
        | some (.rt w, ev2, S2) => some (.rt w, ev2, S2)
        | some (.ex x, ev2, S2) => some (.ex x, ev2, S2)
def sForM (n : Nat) (fi : Ev → M Rdr) (g : Vl → Ev → Option Ev) (fb : SM) : SM := fun ev => onE (fi ev) ev fun ρ S => loopM ρ g fb n 0 ev S
section
variable {X : Cx} {c : Cf} {W : WX} {tg : Expr} {pos : Pos} {is : List Nat}
theorem qs_forM (n : Nat) {it : Expr} {body : List Stmt} {fi : Ev → M Rdr} {g : Vl → Ev → Option Ev} {is : List Nat} {fb : SM} (hp : PassesOwn (model X.prog X.w) X.A X.env X.xe) (hc : X.calm = true) (hi : QIM X c W tg it fi) (hg : QG X c tg g is) (hb : QSs X c W body fb)
    (hs : ∀ x, foldedSetIterable it X.env x = pure x := by intro _; rfl) : QS X c W (.For tg it body [] pos) (sForM n fi g fb) := by
  refine ps_weak (ps_for hp hc hi hg hb hs) fun D σ H ⟨r, ev, S, x, h⟩ => ?_
  refine tX.of x (h.onE x) fun J H1 ⟨r1, S1, ρ, e1, x1, ⟨F, Y, z1⟩, h1⟩ => ?_
  refine ⟨fun i m σ H => ∃ r ev S, Rel X c r σ H ev S ∧ F r H ∧ sRun X c W r H D (loopM ρ g fb m i ev S), ⟨n, r1, ev, S1, x1, z1, h1⟩, ?_⟩
  rintro i m σ H ⟨r, ev, S, x, z, h⟩
  cases m with
  | zero => exact (none_run h).elim
  | succ m =>
    cases ed : ρ S i with
    | none =>
      simp only [loopM, ed] at h
      exact (none_run h).elim
    | some o =>
      cases o with
      | none =>
        simp only [loopM, ed] at h
        exact .inl ⟨Y.stop _ _ _ _ z x.sto ed, h.nx x⟩
      | some w =>
        refine .inr ⟨Y.go _ _ _ _ _ z x.sto ed, fun σ' H' => ∃ r ev S, Rel X c r σ' H' ev S ∧ F r H' ∧ sRun X c W r H' D (loopM ρ g fb m (i + 1) ev S), fun σ' H' q => ⟨m, by omega, q⟩, fun v H' y => ?_⟩
        obtain ⟨E, s', q⟩ := Y.yld _ _ _ _ _ _ _ z x.sto ed y
        have z' := Y.ext _ _ _ _ _ z E
        have x' := x.ext' E s'
        have h' := h.ext E.up
        simp only [loopM, ed] at h'
        split at h'
        · exact (none_run h').elim
        · rename_i ev1 eg
          refine ⟨r, ev, S, w, ev1, x', q, eg, fun σ1 x1 _ => ⟨r, ev1, S, x1, ?_⟩⟩
          cases eb : fb ev1 S with
          | none =>
            rw [eb] at h'
            exact (none_run h').elim
          | some p =>
            obtain ⟨fl, ev2, S2⟩ := p
            rw [eb] at h'
            refine ⟨fl, ev2, S2, rfl, ?_⟩
            cases fl with
            | nx => exact fun r' σ' H'' e' x'' => ⟨r', ev2, S2, x'', Y.ext _ _ _ _ _ z' e', h'.ext e'⟩
            | ct => exact fun r' σ' H'' e' x'' => ⟨r', ev2, S2, x'', Y.ext _ _ _ _ _ z' e', h'.ext e'⟩
            | bk =>
              obtain ⟨fl, ev3, S3, e3, h3⟩ := h'
              cases e3
              exact fun r' σ' H'' e' x'' => h3 r' σ' H'' e' x''
            | rt w =>
              obtain ⟨fl, ev3, S3, e3, h3⟩ := h'
              cases e3
              exact h3
            | ex y =>
              obtain ⟨fl, ev3, S3, e3, h3⟩ := h'
              cases e3
              exact h3
end

/-! ### comprehensions over them, of any values -/
def compM (ρ : Rdr) (g : Vl → Ev → Option Ev) (t : Ev → M Bool) (el : Ev → M Vl) (ev : Ev) : Nat → Nat → Sto → Option (List Vl × Sto)
  | 0, _, _ => none
  | n + 1, i, S => match ρ S i with
    | none => none
    | some none => some ([], S)
    | some (some d) => match g d ev with
      | none => none
      | some ev1 => match t ev1 S with
        | some (.ok true, S1) => match el ev1 S1 with
          | some (.ok w, S2) => match heldOf w with
            | some z => match compM ρ g t el ev n (i + 1) S2 with
              | some (zs, S3) => some (z :: zs, S3)
              | none => none
            | none => none
          | _ => none
        | some (.ok false, S1) => compM ρ g t el ev n (i + 1) S1
        | _ => none
/-- all data -/
def dataL : List Vl → Option (List PyData)
  | [] => some []
  | .d x :: r => (dataL r).map (x :: ·)
  | _ :: _ => none
inductive Md | fr | lv | lq
/-- how a comprehension's list is kept: as data, as a live list of data, of any values -/
def endM (m : Md) (zs : List Vl) (S : Sto) : Option (Except Str Vl × Sto) := if zs.length ≤ 1000000 then (match m with
  | .fr => match dataL zs with
    | some ds => some (.ok (.d (.list ds)), S)
    | none => none
  | .lv => match dataL zs with
    | some ds => some (.ok (.m S.length), S ++ [.l ds])
    | none => none
  | .lq => some (.ok (.m S.length), S ++ [.q zs])) else none
def fCompM (m : Md) (n : Nat) (fi : Ev → M Rdr) (g : Vl → Ev → Option Ev) (t : Ev → M Bool) (el : Ev → M Vl) (own : List Nat) : Ev → M Vl := fun ev => do
  let ρ ← fi ev
  fun S => match compM ρ g t el (wipeE ev own) n 0 S with
    | some (zs, S') => endM m zs S'
    | none => none
theorem dataL_rp {K : PySem.W.Frag} {r : Lv} {H : Hp} : ∀ {vs : List V} {ws : List Vl} {ds : List PyData}, RvAll K r H vs ws → dataL ws = some ds → RpAll K r H vs ds
  | _, _, _, .nil, e => by cases e; exact .nil
  | _, w :: ws, _, .cons h t, e => by
    cases w with
    | d x =>
      simp only [dataL] at e
      cases q : dataL ws with
      | none => rw [q] at e; cases e
      | some ds => rw [q] at e; cases e; exact .cons h (dataL_rp t q)
    | m _ => cases e
    | f _ => cases e
    | r _ _ => cases e
    | p _ _ => cases e
theorem dataL_len : ∀ {ws : List Vl} {ds : List PyData}, dataL ws = some ds → ds.length = ws.length
  | [], _, e => by cases e; rfl
  | w :: ws, _, e => by
    cases w with
    | d x =>
      simp only [dataL] at e
      cases q : dataL ws with
      | none => rw [q] at e; cases e
      | some ds => rw [q] at e; cases e; simp [dataL_len q]
    | m _ => cases e
    | f _ => cases e
    | r _ _ => cases e
    | p _ _ => cases e
theorem RvAll.length {K : PySem.W.Frag} {r : Lv} {H : Hp} {vs : List V} {ws : List Vl} (h : RvAll K r H vs ws) : vs.length = ws.length := by
  induction h with
  | nil => rfl
  | cons _ _ ih => simp [ih]
theorem RvAll.append {K : PySem.W.Frag} {r : Lv} {H : Hp} {vs us : List V} {ws xs : List Vl} (h : RvAll K r H vs ws) (s : RvAll K r H us xs) : RvAll K r H (vs ++ us) (ws ++ xs) := by
  induction h with
  | nil => exact s
  | cons h _ ih => exact .cons h ih
theorem RvAll.get {K : PySem.W.Frag} {r : Lv} {H : Hp} : ∀ {vs : List V} {ws : List Vl} {i : Nat} {w : Vl}, RvAll K r H vs ws → ws[i]? = some w → ∃ v, vs[i]? = some v ∧ Rv K r H v w
  | _, _, _, _, .nil, e => by simp at e
  | _, _, 0, _, .cons h _, e => by simp at e; subst e; exact ⟨_, rfl, h⟩
  | _, _, i + 1, w, .cons _ t, e => by
    obtain ⟨v, h1, h2⟩ := RvAll.get (i := i) (w := w) t (by simpa using e)
    exact ⟨v, by simpa using h1, h2⟩
theorem Rv.putH {K : PySem.W.Frag} {wd : Wg} {r : Lv} {H : Hp} {S : Sto} {D : Addr} {xs : List V} {vs : List V} {ws : List Vl} (s : StoRel wd K r H S) (hD : D ∈ r.hid) (h : RvAll K r H vs ws) : RvAll K r (upd H D (.lst xs)) vs ws :=
  h.map (fun _ _ q => sqf_putH s.mu hD q) (fun _ _ q => sqt_putH s.mu hD q) fun _ _ q => q
theorem sqf_live {K : PySem.W.Frag} {r : Lv} {H : Hp} {D b : Addr} {ys : List V} (hb : SqF K (r.hide D) H b ys) : SqF K ⟨r.st ++ [D], r.hid⟩ H b ys := by
  rcases hb with ⟨hb, hn⟩ | hb
  · refine .inl ⟨hb, fun hm => ?_, fun hm => hn.2 (List.mem_cons_of_mem _ hm)⟩
    have hm : b ∈ r.st ++ [D] := hm
    rcases List.mem_append.mp hm with z | z
    · exact hn.1 z
    · rw [List.mem_singleton.mp z] at hn
      exact hn.2 List.mem_cons_self
  · exact .inr hb
theorem stk_live {r : Lv} {D : Addr} (n : Nat) (a : Addr) (h : (r.hide D).st[n]? = some a) : (⟨r.st ++ [D], r.hid⟩ : Lv).st[n]? = some a := by
  have h : r.st[n]? = some a := h
  show (r.st ++ [D])[n]? = some a
  rw [List.getElem?_append_left (List.getElem?_eq_some_iff.mp h).1]; exact h
/-- what was hidden is live from now on -/
theorem StoRel.raise {wd : Wg} {K : PySem.W.Frag} {r : Lv} {H : Hp} {S : Sto} {D : Addr} {m : MO} (s : StoRel wd K (r.hide D) H S) (hn : D ∉ r.hid) (hm : MoR wd K ⟨r.st ++ [D], r.hid⟩ H D m) : StoRel wd K ⟨r.st ++ [D], r.hid⟩ H (S ++ [m]) := by
  have hD : D ∉ r.st := s.apart D List.mem_cons_self
  refine ⟨?_, by have := s.len; simp; exact this, fun n a y h1 h2 => ?_, fun a ha => s.hid a (List.mem_cons_of_mem _ ha), fun a ha hm => ?_⟩
  · show (r.st ++ [D]).Nodup
    rw [List.nodup_append]
    refine ⟨s.nd, by simp, fun a ha b hb q => ?_⟩
    have hb' : b = D := by simpa using hb
    subst hb'; subst q
    exact hD ha
  · have h1 : (r.st ++ [D])[n]? = some a := h1
    have hl : r.st.length = S.length := s.len
    by_cases hlt : n < r.st.length
    · rw [List.getElem?_append_left hlt] at h1
      rw [List.getElem?_append_left (by rw [← hl]; exact hlt)] at h2
      exact (s.ob n a y h1 h2).map (fun _ q => q) (fun _ _ q => sqf_live q) (fun _ _ q => q) stk_live
    · have hn2 : n = r.st.length := by
        have := (List.getElem?_eq_some_iff.mp h1).1
        simp at this; omega
      subst hn2
      rw [List.getElem?_append_right (Nat.le_refl _)] at h1
      rw [hl, List.getElem?_append_right (Nat.le_refl _)] at h2
      simp at h1 h2
      subst h1; subst h2
      exact hm
  · have hm : a ∈ r.st ++ [D] := hm
    rcases List.mem_append.mp hm with z | z
    · exact s.apart a (List.mem_cons_of_mem _ ha) z
    · rw [List.mem_singleton.mp z] at ha
      exact hn ha
section
variable {X : Cx} {c : Cf} {W : WX} {e : Expr} {pos : Pos} {K : PySem.W.Frag} {wd : Wg} {mg : Str → Option Value} {r : Lv} {H : Hp} {S : Sto} {σ : L2.St} {ev : Ev} {D : Addr}
structure CompM (X : Cx) (c : Cf) (r1 : Lv) (H1 : Hp) (D : Addr) (F : Lv → Hp → Prop) (σ0 : L2.St) (evw : Ev) (r : Lv) (H : Hp) (S : Sto) (acc : List Vl) : Prop where
  ext : Ext c.lam r1 r H1 H
  sto : StoRel (wg X) X.K (r.hide D) H S
  tabs : Tabs c.T H
  f : F (r.hide D) H
  at_ : ∃ accV, H D = some (.lst accV) ∧ RvAll X.K (r.hide D) H accV acc
  ev : EvR X.K X.mg (r.hide D) σ0 H evw
theorem CompM.start {r1 : Lv} {H1 : Hp} {S1 : Sto} {F : Lv → Hp → Prop} {J : It} {ρ : Rdr} {vs : List Nat} (Y : YieldsM (wg X) X.K X.mg J ρ F) (z : F r1 H1) (s : StoRel (wg X) X.K r1 H1 S1) (t : Tabs c.T H1) (q : EvR X.K X.mg r1 σ H1 ev) (hD : H1 D = none) :
    CompM X c r1 H1 D F (L2.wipe σ vs) (wipeE ev vs) r1 (upd H1 D (.lst [])) S1 [] :=
  ⟨Ext.new s.mu hD, s.hide hD, tabs_ext (Ext.new (lam := false) s.mu hD) t, Y.hide _ _ _ _ z s hD, ⟨[], upd_same, .nil⟩, (q.wipe vs).hide hD⟩
theorem CompM.step {r1 r : Lv} {H1 H H' : Hp} {F : Lv → Hp → Prop} {J : It} {ρ : Rdr} {acc : List Vl} {evw : Ev} {σ0 : L2.St} {S' : Sto} {r' : Lv} (Y : YieldsM (wg X) X.K X.mg J ρ F) (C : CompM X c r1 H1 D F σ0 evw r H S acc) (E : Ext c.lam (r.hide D) r' H H') (s : StoRel (wg X) X.K r' H' S') (t : Tabs c.T H') :
    ∃ r2, r' = r2.hide D ∧ CompM X c r1 H1 D F σ0 evw r2 H' S' acc := by
  obtain ⟨r2, rfl, e2⟩ := C.ext.under E
  obtain ⟨accV, h1, h2⟩ := C.at_
  refine ⟨r2, rfl, e2, s, t, Y.ext _ _ _ _ _ C.f E, ⟨accV, ?_, h2.ext E⟩, C.ev.ext E⟩
  rcases E.keep D _ h1 (C.sto.apart D List.mem_cons_self) with q | ⟨_, ps, q⟩
  · exact q
  · cases q
theorem CompM.put {r1 r : Lv} {H1 H : Hp} {F : Lv → Hp → Prop} {J : It} {ρ : Rdr} {acc : List Vl} {evw : Ev} {σ0 : L2.St} {z : Vl} {v : V} (Y : YieldsM (wg X) X.K X.mg J ρ F) (C : CompM X c r1 H1 D F σ0 evw r H S acc) (q : Rv X.K (r.hide D) H v z) (hD : H1 D = none) :
    ∀ accV, H D = some (.lst accV) → CompM X c r1 H1 D F σ0 evw r (upd H D (.lst (accV ++ [v]))) S (acc ++ [z]) := fun accV hV => by
  obtain ⟨accV', h1, h2⟩ := C.at_
  rw [hV] at h1
  cases h1
  have hm : D ∈ (r.hide D).hid := List.mem_cons_self
  exact ⟨C.ext.fresh hD, C.sto.putH hm, tabs_put C.tabs hV, Y.putH _ _ _ _ _ C.f C.sto hm, ⟨_, upd_same, Rv.putH C.sto hm (h2.append (.cons q .nil))⟩, C.ev.putH C.sto hm⟩
theorem CompM.done {r1 r : Lv} {H1 H : Hp} {F : Lv → Hp → Prop} {acc : List Vl} {evw : Ev} {σ0 : L2.St} (C : CompM X c r1 H1 D F σ0 evw r H S acc) (hD : H1 D = none) (n1 : r1.no D) (m : Md) {o : Except Str Vl} {Se : Sto} (h : endM m acc S = some (o, Se)) : ∃ w r2, o = .ok w ∧ Ext c.lam r1 r2 H1 H ∧ StoRel (wg X) X.K r2 H Se ∧ Rw X.K X.mg r2 H (.ref D) w := by
  obtain ⟨accV, h1, h2⟩ := C.at_
  have n2 : D ∉ r.hid := by
    obtain ⟨n, rfl, _⟩ := C.ext.pre
    exact n1.2
  have e2 : Ext c.lam r1 ⟨r.st ++ [D], r.hid⟩ H1 H := by
    obtain ⟨n, e, hf⟩ := C.ext.pre
    refine ⟨⟨n ++ [D], by rw [e]; simp, fun a ha => ?_⟩, C.ext.keep, C.ext.dom, C.ext.mu, C.ext.lock⟩
    rcases List.mem_append.mp ha with z | z
    · exact hf a z
    · rw [List.mem_singleton.mp z]; exact .inl hD
  have hr2 : (⟨r.st ++ [D], r.hid⟩ : Lv).st[S.length]? = some D := by
    have hl : r.st.length = S.length := C.sto.len
    rw [← hl]
    simp
  unfold endM at h
  split at h
  · cases m with
    | fr =>
      dsimp only at h
      split at h
      · rename_i ds hd
        cases h
        have h3 := dataL_rp h2 hd
        exact ⟨_, r, rfl, C.ext, C.sto.show, .lst (.inl ⟨h1, C.sto.apart D List.mem_cons_self, n2⟩) h3.show⟩
      · cases h
    | lv =>
      dsimp only at h
      split at h
      · rename_i ds hd
        cases h
        have h3 := dataL_rp h2 hd
        exact ⟨_, ⟨r.st ++ [D], r.hid⟩, rfl, e2, C.sto.raise n2 ⟨accV, h1, h3.map (fun _ _ q => sqf_live q) fun _ _ q => q⟩, D, hr2, rfl⟩
      · cases h
    | lq =>
      cases h
      exact ⟨_, ⟨r.st ++ [D], r.hid⟩, rfl, e2, C.sto.raise n2 ⟨accV, h1, h2.map (fun _ _ q => sqf_live q) (fun _ _ q => q) stk_live⟩, D, hr2, rfl⟩
  · cases h
theorem endM_len {m : Md} {zs : List Vl} {S : Sto} {p : Except Str Vl × Sto} (h : endM m zs S = some p) : zs.length ≤ 1000000 := by
  unfold endM at h
  split at h
  · assumption
  · cases h
theorem compM_weak {m : Md} {n : Nat} {fi : Ev → M Rdr} {g : Vl → Ev → Option Ev} {t : Ev → M Bool} {el : Ev → M Vl} {own is : List Nat} (hi : ∀ i ∈ is, i ∈ own) {Q : VK} (h : tE X c W (fCompM m n fi g t el own) σ H Q) :
    tLc (tX X c W (RIM (wg X) X.K X.mg) fi) (tG X c g is) (tT X c W0 t) (tE X c W0 el) own σ H Q := by
  obtain ⟨r, ev, S, x, h⟩ := h
  refine tX.of x h.bind fun J H1 ⟨r1, S1, ρ, e1, s1, t1, ⟨F, Y, z1⟩, h1⟩ D hD => ?_
  have x1 := x.ext e1 s1 t1
  obtain ⟨o, So, eo, hq⟩ := h1
  dsimp only at eo
  cases ec : compM ρ g t el (wipeE ev own) n 0 S1 with
  | none => rw [ec] at eo; cases eo
  | some p =>
    obtain ⟨zs, Se⟩ := p
    rw [ec] at eo
    dsimp only at eo
    have hz := endM_len eo
    refine ⟨fun i k H => ∃ r S acc rest, CompM X c r1 H1 D F (L2.wipe σ own) (wipeE ev own) r H S acc ∧ compM ρ g t el (wipeE ev own) k i S = some (rest, Se) ∧ acc ++ rest = zs, ⟨n, r1, S1, [], zs, CompM.start Y z1 s1 t1 x1.ev hD, ec, rfl⟩, ?_⟩
    rintro i k H2 ⟨r, S, acc, rest, C, e2, e3⟩
    cases k with
    | zero => cases e2
    | succ k =>
      cases ed : ρ S i with
      | none => simp only [compM, ed] at e2; cases e2
      | some od =>
        cases od with
        | none =>
          simp only [compM, ed] at e2
          cases e2
          rw [List.append_nil] at e3
          subst e3
          obtain ⟨w, r2, rfl, E2, sd, qd⟩ := C.done hD (s1.no hD) m eo
          exact .inl ⟨Y.stop _ _ _ _ C.f C.sto ed, hq r2 (.ref D) H2 E2 sd C.tabs qd⟩
        | some d =>
          refine .inr ⟨Y.go _ _ _ _ _ C.f C.sto ed, fun H' => ∃ r S acc rest, CompM X c r1 H1 D F (L2.wipe σ own) (wipeE ev own) r H' S acc ∧ compM ρ g t el (wipeE ev own) k (i + 1) S = some (rest, Se) ∧ acc ++ rest = zs, fun H' q => ⟨k, by omega, q⟩, fun v H' y => ?_⟩
          obtain ⟨E, s', q⟩ := Y.yld _ _ _ _ _ _ _ C.f C.sto ed y
          obtain ⟨r2, er2, C'⟩ := C.step Y E.up s' (tabs_ext E C.tabs)
          simp only [compM, ed] at e2
          have xb : Rel X c (r.hide D) (L2.wipe σ own) H' (wipeE ev own) S := ⟨s', tabs_ext E C.tabs, C.ev.ext E, by rw [wipe_length]; exact x.len⟩
          have hr2 : r2.hide D = r.hide D := er2.symm
          split at e2
          · cases e2
          · rename_i ev1 eg
            refine ⟨r.hide D, wipeE ev own, S, d, ev1, xb, q, eg, fun σ2 x2 sb => ⟨?_, ?_⟩⟩
            · rw [wipe_eq sb hi, wipe_wipe]
            · split at e2
              · rename_i S2 et
                refine ⟨r.hide D, ev1, S, x2, .ok true, S2, et, fun r3 b H3 E3 s3 t3 q3 => ?_⟩
                cases q3
                rw [if_pos rfl]
                rw [← hr2] at E3
                obtain ⟨r4, rfl, C3⟩ := C'.step Y E3 s3 t3
                have x3 : Rel X c (r4.hide D) σ2 H3 ev1 S2 := by
                  rw [← hr2] at x2
                  exact x2.ext E3 s3 t3
                split at e2
                · rename_i w S4 ee
                  refine ⟨r4.hide D, ev1, S2, x3, .ok w, S4, ee, fun r5 v5 H5 E5 s5 t5 q5 => ?_⟩
                  obtain ⟨r6, rfl, C5⟩ := C3.step Y E5 s5 t5
                  split at e2
                  · rename_i z hz2
                    split at e2
                    · rename_i zs' S6 er
                      cases e2
                      obtain ⟨accV, hV, hR⟩ := C5.at_
                      have hlen : accV.length < sizeLine := by
                        rw [hR.length, sizeLine_eq]
                        have := congrArg List.length e3
                        simp at this
                        omega
                      exact ⟨accV, hV, hlen, r6, S4, acc ++ [z], zs', C5.put Y (held_ok q5 hz2) hD accV hV, er, by rw [← e3]; simp⟩
                    · cases e2
                  · cases e2
                · cases e2
              · rename_i S2 et
                refine ⟨r.hide D, ev1, S, x2, .ok false, S2, et, fun r3 b H3 E3 s3 t3 q3 => ?_⟩
                cases q3
                rw [if_neg (by decide)]
                rw [← hr2] at E3
                obtain ⟨r4, rfl, C3⟩ := C'.step Y E3 s3 t3
                exact ⟨r4, S2, acc, rest, C3, e2, e3⟩
              · cases e2
end
section
variable {X : Cx} {c : Cf} {W : WX} {pos : Pos}
theorem qe_compM (m : Md) (n : Nat) {elt tg it : Expr} {ifs : List Expr} {scope : Scope} {own : List (Str × Nat)} {fi : Ev → M Rdr} {g : Vl → Ev → Option Ev} {t : Ev → M Bool} {el : Ev → M Vl} {is : List Nat} (hc : X.calm = true) (hN : X.N.Nodup) (hi : QIM X c W tg it fi) (ok : BlkOk X.N X.env.scope scope own)
    (hg : ∀ (s : Shared) (H : Hp) (C : Addr) (cl : List (Str × Addr)) (fp : List Addr), QG (X.blk s H scope (compEnvC scope cl C X.env) fp) c tg g is) (ht : ∀ (s : Shared) (H : Hp) (C : Addr) (cl : List (Str × Addr)) (fp : List Addr), QTs (X.blk s H scope (compEnvC scope cl C X.env) fp) c W0 ifs t)
    (he : ∀ (s : Shared) (H : Hp) (C : Addr) (cl : List (Str × Addr)) (fp : List Addr), QE (X.blk s H scope (compEnvC scope cl C X.env) fp) c W0 elt el) (his : ∀ i ∈ is, i ∈ own.map (·.2) := by decide) (hs : ∀ x, foldedSetIterable it X.env x = pure x := by intro _; rfl) :
    QE X c W (.ListComp elt [⟨tg, it, ifs, 0⟩] scope pos) (fCompM m n fi g t el (own.map (·.2))) := by
  refine pe_weak (pe_lc (wi := tX X c W (RIM (wg X) X.K X.mg) fi) (g := tG X c g is) (tt := tT X c W0 t) (te := tE X c W0 el) hc hN hi ok (fun s H C cl fp => pg_blk (hg s H C cl fp)) (fun s H C cl fp => pts_blk (ht s H C cl fp)) (fun s H C cl fp => pe_blk (he s H C cl fp)) hs) fun σ H Q h => ?_
  exact compM_weak his h
theorem qs_compM (m : Md) (n : Nat) (i : Nat) {y : Str} {py : Pos} {elt tg it : Expr} {ifs : List Expr} {scope : Scope} {own : List (Str × Nat)} {pos spos : Pos} {fi : Ev → M Rdr} {g : Vl → Ev → Option Ev} {t : Ev → M Bool} {el : Ev → M Vl} {is : List Nat} (hc : X.calm = true) (hN : X.N.Nodup) (hi : QIM X c W tg it fi) (ok : BlkOk X.N X.env.scope scope own)
    (hg : ∀ (s : Shared) (H : Hp) (C : Addr) (cl : List (Str × Addr)) (fp : List Addr), QG (X.blk s H scope (compEnvC scope cl C X.env) fp) c tg g is) (ht : ∀ (s : Shared) (H : Hp) (C : Addr) (cl : List (Str × Addr)) (fp : List Addr), QTs (X.blk s H scope (compEnvC scope cl C X.env) fp) c W0 ifs t)
    (he : ∀ (s : Shared) (H : Hp) (C : Addr) (cl : List (Str × Addr)) (fp : List Addr), QE (X.blk s H scope (compEnvC scope cl C X.env) fp) c W0 elt el)
    (hsw : swapsWith (.ListComp elt [⟨tg, it, ifs, 0⟩] scope pos) (some (.Name y py)) spos.line X.env = pure true)
    (his : ∀ i ∈ is, i ∈ own.map (·.2) := by decide) (hy : X.N[i]? = some y := by rfl) (hyl : X.env.scope.names.lookup y = some .local := by rfl) (hs : ∀ x, foldedSetIterable it X.env x = pure x := by intro _; rfl) :
    QS X c W (.Assign [.Name y py] (.ListComp elt [⟨tg, it, ifs, 0⟩] scope pos) spos) (sSet i (fCompM m n fi g t el (own.map (·.2)))) := by
  refine ps_weak (ps_setLc (wi := tX X c W (RIM (wg X) X.K X.mg) fi) (g := tG X c g is) (tt := tT X c W0 t) (te := tE X c W0 el) hc hN hy hyl hsw hi ok (fun s H C cl fp => pg_blk (hg s H C cl fp)) (fun s H C cl fp => pts_blk (ht s H C cl fp)) (fun s H C cl fp => pe_blk (he s H C cl fp)) hs) fun D σ H ⟨r, ev, S, x, h⟩ => ?_
  have h := tX.of x (h.onE (R := Rw X.K X.mg) x) fun v H1 q => q
  refine compM_weak (m := m) (n := n) his ?_
  obtain ⟨r0, ev0, S0, x0, h⟩ := h
  exact ⟨r0, ev0, S0, x0, h.mono fun v H1 ⟨r1, S1, w, e1, x1, q1, h1⟩ => h1.nx (x1.set hy q1)⟩
end
end DD
/-! part EC -/
set_option Elab.async false
set_option linter.all false
set_option maxRecDepth 100000
set_option maxHeartbeats 4000000
namespace DD
open PySem PySem.Spec PyProof.Rows L2 LamX
open PySem.Sem (wp)

/-! ### enumerate over a tuple -/
theorem meets_enum1 {v : Value} {o : Obj} {H : Heap → Prop} (B : Begins v o H) :
    Meets (Builtin.«enumerate.__new__» ⟨[.type "enumerate", v], []⟩) (fun _ R s => H s.heap ∧
      R (.ok (.ret (.ref (s.heap.push o).objs.size))) { s with heap := (s.heap.push o).push { cls := .type "enumerate", data := .fields #[.none, .bool false, .ref s.heap.objs.size, rawInt 0, .none, .none] } }) :=
  .of_wp fun prog w A R s h => by
    obtain ⟨hp, g, d, tk, os⟩ := s; obtain ⟨h1, h⟩ := h
    have hsub := sub_enumerate
    have q1 : ∀ {A' : Around} {E : Value → Shared → Prop} {Q : Value → Shared → Prop}, Q (.ref hp.objs.size) ⟨hp.push o, g, d, tk, os⟩ → wpAny (model prog w) A' (pyIter v) Q E ⟨hp, g, d, tk, os⟩ :=
      fun q => B.iter prog w _ _ ⟨hp, g, d, tk, os⟩ _ h1 q
    wp_walk using q1
    refine wpAny_stack_any fun st => wpAny_pure ?_
    split
    · rename_i c _ _ _ _ _
      cases (c == Value.type "enumerate")
      · wp_walk using q1
        exact ⟨_, rfl, h⟩
      · wp_walk using q1
        exact ⟨_, rfl, h⟩
    · wp_walk using q1
      exact ⟨_, rfl, h⟩
theorem call_enumT {prog : Program} {w : World} {A : Around} {E : Value → Shared → Prop} {s : Shared} {l : Addr} {items : Array Value} {Q : Value → Shared → Prop} (hL : s.heap.IsTuple l items)
    (h : ∀ h', IsEnum h' (s.heap.objs.size + 1) s.heap.objs.size 0 .none → h'.IsTupleIter s.heap.objs.size l 0 → h'.objs.size = s.heap.objs.size + 2 →
      (∀ b o, s.heap.get? b = some o → h'.get? b = some o) → Q (.ref (s.heap.objs.size + 1)) { s with heap := h' }) :
    wpAny (model prog w) A (call (.type "enumerate") [.ref l]) Q E s := by
  refine callType_new F.called_enumerate (by decide) (F.typeCall_enumerate_1 _) (F.newCall_enumerate_1 _) (fun obj => F.args_object_init_2 obj _) F.entry_enumerate_new
    (meets_enum1 (begins_tuple l items)) ⟨hL, ?_⟩
  have hz : (s.heap.push { cls := .type "tuple_iterator", data := .fields #[.ref l, .int 0 0] }).objs.size = s.heap.objs.size + 1 := Heap.size_push ..
  show _ ∧ _
  rw [hz]
  have he : IsEnum ((s.heap.push { cls := .type "tuple_iterator", data := .fields #[.ref l, .int 0 0] }).push
      { cls := .type "enumerate", data := .fields #[.none, .bool false, .ref s.heap.objs.size, rawInt 0, .none, .none] }) (s.heap.objs.size + 1) s.heap.objs.size 0 .none := by
    have := Heap.get?_push_size (s.heap.push { cls := .type "tuple_iterator", data := .fields #[.ref l, .int 0 0] })
      (o := { cls := .type "enumerate", data := .fields #[.none, .bool false, .ref s.heap.objs.size, rawInt 0, .none, .none] }) rfl
    rw [hz] at this; exact this
  refine ⟨⟨_, he, rfl⟩, h _ he ⟨_, Heap.get?_push_of_some _ (Heap.get?_push_size _ rfl), rfl, rfl⟩ (by rw [Heap.size_push, hz]) fun b o x => Heap.get?_push_of_some _ (Heap.get?_push_of_some _ x)⟩
theorem enumT_end {prog : Program} {w : World} {A : Around} {E : Value → Shared → Prop} {s : Shared} {e it l : Addr} {i : Nat} {items : Array Value} {old : Value} {Q : Option Value → Shared → Prop} (hh : A.handled = none)
    (he : IsEnum s.heap e it i old) (hit : s.heap.IsTupleIter it l i) (hl : s.heap.IsTuple l items) (hx : items[i]? = none)
    (hQ : ∀ h', Heap.ExtBut it s.heap h' → Q none { s with heap := h' }) : wpAny (model prog w) A (pyNext (.ref e)) Q E s := by
  have hT : s.TypeIs (.ref e) "enumerate" := ⟨_, he, rfl⟩
  unfold pyNext
  refine wpAny_bind (wpAny_attempt (wpAny_callSpecial?_slot (name := Str.ofString "__next__") hT F.slot_enumerate_next
    (wpAny_call_entry F.slot_enumerate_next hT F.entry_enumerate_next ?_ (F.args_enumerate_next_1 _))))
  show wpAny _ _ (field (.ref e) 2 >>= _) _ _ _
  refine wpAny_bind (wpAny_field he rfl (x := .ref it) rfl ?_)
  refine wpAny_bind (wpAny_nextOf_tuple_end (show A.in1.handled = none from hh) hit hl hx fun h' x he' hx' => ?_)
  obtain ⟨o, ho, hc⟩ := hx'
  refine wpAny_bind (wpAny_isInstance (T := "StopIteration") (b := true) ⟨o, ho, hc⟩ isSubtype_stop ?_)
  exact wpAny_pure (hQ _ he')
def IteT (K : PySem.W.Frag) (a : Addr) : It :=
  ⟨fun i H => ∃ (xs : List V) (x : V), SqT K H a xs ∧ xs[i]? = some x, fun i H v H' => ∃ T x, v = .ref T ∧ H T = none ∧ H' = upd H T (.tup [.int (i : Nat), x]) ∧ ∀ xs, SqT K H a xs → xs[i]? = some x, fun i H => ∃ xs : List V, SqT K H a xs ∧ xs.length ≤ i⟩
theorem turn_enumT {P : Program} {w : World} {K : PySem.W.Frag} {elts : List Expr} {kk : Nat} {tpos : Pos} (a e it : Addr) :
    Turn P w K (.Tuple elts kk tpos) (IteT K a) [e, it] e (fun i h => (∃ old, IsEnum h e it ((i : Nat) : Int) old) ∧ h.IsTupleIter it a i ∧ e ≠ it) where
  mem := by simp
  obj := fun i h st b hb => by
    obtain ⟨⟨old, he⟩, ⟨o, ho, hc, hd⟩, _⟩ := st
    have e' : b = e ∨ b = it := by simpa using hb
    rcases e' with z | z
    · rw [z]; exact ⟨_, he, fun v q => nomatch q⟩
    · rw [z]; exact ⟨o, ho, fun v q => by rw [hd] at q; cases q⟩
  keep := fun i h h' st k => let ⟨⟨old, he⟩, hi, hne⟩ := st; ⟨⟨old, k e (by simp) _ he⟩, hi.at fun o q => k it (by simp) o q, hne⟩
  item := by
    intro X hP hw hK hc i pins s σ H E I hf st hg
    subst hP hw hK
    obtain ⟨⟨old, he⟩, hit, hne⟩ := st
    obtain ⟨xs, x, hq, hx⟩ := hg
    obtain ⟨its, rv, p, hz⟩ := I.tuple hq
    obtain ⟨u, hu, ru⟩ := rv.get hx
    have hel : e < s.heap.objs.size := Heap.lt_size he
    have hil : it < s.heap.objs.size := by obtain ⟨_, q, _⟩ := hit; exact Heap.lt_size q
    have hat : a ≠ it := fun z => by
      obtain ⟨o1, q1, c1, _⟩ := hit
      obtain ⟨o2, q2, c2, _⟩ := (show s.heap.IsTuple a its.toArray from p)
      rw [z, q1] at q2
      cases q2
      rw [c1] at c2
      exact absurd (Value.type.inj c2) (by decide)
    have hae : e ∉ [it, a] := fun hm => by
      rcases List.mem_cons.mp hm with z | z
      · exact hne z
      · have z := List.mem_singleton.mp z
        obtain ⟨o2, q2, c2, _⟩ := (show s.heap.IsTuple a its.toArray from p)
        rw [← z] at q2
        have he' : s.heap.get? e = some _ := he
        rw [he'] at q2
        cases q2
        exact absurd (Value.type.inj c2) (by decide)
    have hlt : i < its.toArray.size := by
      have := (List.getElem?_eq_some_iff.mp hu).1
      simpa using this
    refine wpAny_pyNext_enum_itemC (D := Draws.tuple (A := X.A.in1) (show X.A.in1.handled = none from I.ok.hd hc) it a hat its.toArray) he ⟨hit, p⟩ hlt hne hae fun x' h' tk hx' ho hst' hT hsz hk => ?_
    have hxu : x' = u := by
      have : its.toArray[i]? = some u := by simpa using hu
      rw [this] at hx'
      exact (Option.some.inj hx').symm
    subst hxu
    refine ⟨_, rfl, wpAny_letOwnedTupleGo_enum (s := { s with heap := h', toks := tk + 1 }) ho fun h'' he' sb => ?_⟩
    have hT2 : h''.get? s.heap.objs.size = some { cls := .type "tuple", data := .seq #[.int i tk, x'] } := (sb.2 _ (Nat.ne_of_gt hel)).trans hT
    have new : ObjOk X.prog X.w (upd H s.heap.objs.size (.tup [.int (i : Nat), x])) h'' s.heap.objs.size (.tup [.int (i : Nat), x]) :=
      ⟨by show 2 ≤ sizeLine; decide, [.int i tk, x'], .cons ⟨_, rfl⟩ (.cons ru .nil), ⟨_, hT2, rfl, _, rfl⟩⟩
    have I1 : Inv X pins σ (upd H s.heap.objs.size (.tup [.int (i : Nat), x])) { s with heap := h'', toks := tk + 1 } :=
      I.turnedNew (ch := [e, it]) (fun b ob hb q => (sb.2 b (fun z => hb (by simp [z]))).trans (hk b ob (fun z => hb (by simp [z])) (fun z => hb (by simp [z])) q)) hf (Nat.le_refl _) new
    refine ⟨.ref s.heap.objs.size, _, I1, rfl, ⟨_, x, rfl, I.hok.fresh (Nat.le_refl _), rfl, fun ys hy => by rw [I.tuple_inj hy hq]; exact hx⟩, ⟨⟨x', ?_⟩, hst'.1.at fun o q => (sb.2 it (Ne.symm hne)).trans q, hne⟩, fun b hb => ?_⟩
    · have e1 : ((i + 1 : Nat) : Int) = (i : Int) + 1 := by omega
      rw [e1]; exact he'
    · have hb' : b < s.heap.objs.size := by
        have e' : b = e ∨ b = it := by simpa using hb
        rcases e' with z | z
        · rw [z]; exact hel
        · rw [z]; exact hil
      rw [upd_ne (Nat.ne_of_lt hb')]
      exact (hf b hb).1
  done := by
    intro X hP hw hK hc i pins s σ H E I hf st hg
    subst hP hw hK
    obtain ⟨⟨old, he⟩, hit, hne⟩ := st
    obtain ⟨xs, hq, hx⟩ := hg
    obtain ⟨its, rv, p, hz⟩ := I.tuple hq
    have hl := rv.length
    obtain ⟨f0, f1, f2, f3, f4, f5⟩ := hf it (by simp)
    exact enumT_end (I.ok.hd hc) he hit p (by simp; omega) fun h' eb => ⟨rfl, I.turned (t' := s.toks) (fun b o hb q => eb b o hb q) f0 f1 f3 f4 f5⟩
  self := fun A i s Q E st h => let ⟨⟨_, he⟩, _⟩ := st; wpAny_pyIter_enum he h
end DD
/-! part ED -/
set_option Elab.async false
set_option linter.all false
set_option maxRecDepth 100000
set_option maxHeartbeats 4000000
namespace DD
open PySem PySem.Spec PyProof.Rows L2 LamX

/-! ### what is walked: a live list, data; enumerate of it -/
def liveR (k : Nat) : Rdr := fun S i => match S[k]? with
  | some (.l xs) => some ((xs[i]?).map .d)
  | some (.q ws) => some ws[i]?
  | _ => none
def datR (ds : List PyData) : Rdr := fun _ i => match ds[i]? with
  | some d => some (some (.d d))
  | none => if i = ds.length then some none else none
def isSeq : Option MO → Bool
  | some (.l _) => true
  | some (.q _) => true
  | _ => false
def rdrOf : Vl → M Rdr
  | .m k => fun S => if isSeq S[k]? then some (.ok (liveR k), S) else none
  | .d (.list xs) => pure (datR xs)
  | .d (.tuple xs) => pure (datR xs)
  | _ => M.fail
def enR (ρ : Rdr) : Rdr := fun S i => match ρ S i with
  | none => none
  | some none => some none
  | some (some w) => match heldOf w with
    | some u => some (some (.p (.d (.int (i : Nat))) u))
    | none => none
def fRead (f : Ev → M Vl) : Ev → M Rdr := fun ev => do
  let w ← f ev
  rdrOf w
def fEnumR (fs : Ev → M (List Vl)) : Ev → M Rdr := fun ev => do
  let ws ← fs ev
  match ws with
  | [w] => do
    let ρ ← rdrOf w
    pure (enR ρ)
  | _ => M.fail
section
variable {wd : Wg} {K : PySem.W.Frag} {mg : Str → Option Value}
theorem YieldsM.ofData {J : It} {ds : List PyData} {F : Lv → Hp → Prop} (Y : Yields wd K J ds F) : YieldsM wd K mg J (datR ds) F where
  go := fun r H S i w f s e => by
    unfold datR at e
    cases h : ds[i]? with
    | none => rw [h] at e; dsimp only at e; split at e <;> cases e
    | some d => exact Y.go r H i f (List.getElem?_eq_some_iff.mp h).1
  yld := fun r H S i w x H' f s e y => by
    unfold datR at e
    cases h : ds[i]? with
    | none => rw [h] at e; dsimp only at e; split at e <;> cases e
    | some d =>
      rw [h] at e
      cases e
      exact Y.yld r H S i d x H' f s h y
  stop := fun r H S i f s e => by
    unfold datR at e
    cases h : ds[i]? with
    | some d => rw [h] at e; cases e
    | none =>
      rw [h] at e
      dsimp only at e
      split at e
      · rename_i q
        subst q
        exact Y.stop r H f
      · cases e
  ext := fun lam r r' H H' f e => Y.ext lam r r' H H' f e
  hide := fun r H S D f s h => Y.hide r H S D f s h
  putH := fun r H S D xs f s h => Y.putH r H S D xs f s h
theorem yields_live {k : Nat} {a : Addr} : YieldsM wd K mg (Itl K a) (liveR k) (fun r H => r.st[k]? = some a) where
  go := fun r H S i w f s e => by
    unfold liveR at e
    cases h : S[k]? with
    | none => rw [h] at e; cases e
    | some o =>
      rw [h] at e
      have m := s.ob k a o f h
      cases o with
      | l xs =>
        obtain ⟨vs, h1, h2⟩ := m
        cases hx : xs[i]? with
        | none => simp only [hx] at e; cases e
        | some d =>
          obtain ⟨v, hv, _⟩ := h2.get hx
          exact ⟨vs, v, .inl (.inl h1), hv⟩
      | q ws =>
        obtain ⟨vs, h1, h2⟩ := m
        cases hx : ws[i]? with
        | none => simp only [hx] at e; cases e
        | some d =>
          obtain ⟨v, hv, _⟩ := h2.get hx
          exact ⟨vs, v, .inl (.inl h1), hv⟩
      | k _ => cases e
      | w _ => cases e
      | o _ _ => cases e
      | z _ => cases e
  yld := fun r H S i w x H' f s e ⟨y1, y2⟩ => by
    subst y1
    refine ⟨s.refl, s, ?_⟩
    unfold liveR at e
    cases h : S[k]? with
    | none => rw [h] at e; cases e
    | some o =>
      rw [h] at e
      have m := s.ob k a o f h
      cases o with
      | l xs =>
        obtain ⟨vs, h1, h2⟩ := m
        cases hx : xs[i]? with
        | none => simp only [hx] at e; cases e
        | some d =>
          simp only [hx] at e
          cases e
          obtain ⟨v, hv, q⟩ := h2.get hx
          have := y2 vs (.inl (.inl h1))
          rw [hv] at this
          cases this
          exact q
      | q ws =>
        obtain ⟨vs, h1, h2⟩ := m
        cases hx : ws[i]? with
        | none => simp only [hx] at e; cases e
        | some d =>
          simp only [hx] at e
          cases e
          obtain ⟨v, hv, q⟩ := h2.get hx
          have := y2 vs (.inl (.inl h1))
          rw [hv] at this
          cases this
          exact q.rw
      | k _ => cases e
      | w _ => cases e
      | o _ _ => cases e
      | z _ => cases e
  stop := fun r H S i f s e => by
    unfold liveR at e
    cases h : S[k]? with
    | none => rw [h] at e; cases e
    | some o =>
      rw [h] at e
      have m := s.ob k a o f h
      cases o with
      | l xs =>
        obtain ⟨vs, h1, h2⟩ := m
        cases hx : xs[i]? with
        | some d => simp only [hx] at e; cases e
        | none => exact ⟨vs, .inl (.inl h1), by rw [h2.length]; simpa using hx⟩
      | q ws =>
        obtain ⟨vs, h1, h2⟩ := m
        cases hx : ws[i]? with
        | some d => simp only [hx] at e; cases e
        | none => exact ⟨vs, .inl (.inl h1), by rw [h2.length]; simpa using hx⟩
      | k _ => cases e
      | w _ => cases e
      | o _ _ => cases e
      | z _ => cases e
  ext := fun lam r r' H H' f e => e.stk _ _ f
  hide := fun r H S D f s h => f
  putH := fun r H S D xs f s h => f
theorem enR_some {ρ : Rdr} {S : Sto} {i : Nat} {w : Vl} (e : enR ρ S i = some (some w)) : ∃ u z, ρ S i = some (some u) ∧ heldOf u = some z ∧ w = .p (.d (.int (i : Nat))) z := by
  unfold enR at e
  split at e
  · cases e
  · cases e
  · rename_i u hu
    split at e
    · rename_i z hz
      cases e
      exact ⟨u, z, hu, hz, rfl⟩
    · cases e
theorem enR_none {ρ : Rdr} {S : Sto} {i : Nat} (e : enR ρ S i = some none) : ρ S i = some none := by
  unfold enR at e
  split at e
  · cases e
  · assumption
  · split at e <;> cases e
theorem pair_new {r : Lv} {H : Hp} {S : Sto} {T : Addr} {x : V} {i : Nat} {u z : Vl} (s : StoRel wd K r H S) (hT : H T = none) (q : Rw K mg r H x u) (hz : heldOf u = some z) :
    Ext false r r H (upd H T (.tup [.int (i : Nat), x])) ∧ StoRel wd K r (upd H T (.tup [.int (i : Nat), x])) S ∧ Rw K mg r (upd H T (.tup [.int (i : Nat), x])) (.ref T) (.p (.d (.int (i : Nat))) z) := by
  have E : Ext false r r H (upd H T (.tup [.int (i : Nat), x])) := Ext.new s.mu hT
  exact ⟨E, s.new hT, T, _, _, .inl (.inl upd_same), (show Rp K _ _ _ _ from .int _), (held_ok q hz).ext E, rfl⟩
theorem YieldsM.enumL {a : Addr} {ρ : Rdr} {F : Lv → Hp → Prop} (Y : YieldsM wd K mg (Itl K a) ρ F) : YieldsM wd K mg (Ite K a) (enR ρ) F where
  go := fun r H S i w f s e => by
    obtain ⟨u, z, h1, _⟩ := enR_some e
    exact Y.go r H S i u f s h1
  yld := fun r H S i w x H' f s e ⟨T, y, e1, hT, e2, hy⟩ => by
    obtain ⟨u, z, h1, hz, rfl⟩ := enR_some e
    subst e1; subst e2
    obtain ⟨_, _, q⟩ := Y.yld r H S i u y H f s h1 ⟨rfl, hy⟩
    exact pair_new s hT q hz
  stop := fun r H S i f s e => Y.stop r H S i f s (enR_none e)
  ext := Y.ext
  hide := Y.hide
  putH := Y.putH
theorem YieldsM.enumT {a : Addr} {ρ : Rdr} {F : Lv → Hp → Prop} (Y : YieldsM wd K mg (Itt K a) ρ F) : YieldsM wd K mg (IteT K a) (enR ρ) F where
  go := fun r H S i w f s e => by
    obtain ⟨u, z, h1, _⟩ := enR_some e
    exact Y.go r H S i u f s h1
  yld := fun r H S i w x H' f s e ⟨T, y, e1, hT, e2, hy⟩ => by
    obtain ⟨u, z, h1, hz, rfl⟩ := enR_some e
    subst e1; subst e2
    obtain ⟨_, _, q⟩ := Y.yld r H S i u y H f s h1 ⟨rfl, hy⟩
    exact pair_new s hT q hz
  stop := fun r H S i f s e => Y.stop r H S i f s (enR_none e)
  ext := Y.ext
  hide := Y.hide
  putH := Y.putH
end
section
variable {X : Cx} {c : Cf} {W : WX} {tg e : Expr} {fe : Ev → M Vl} {fs : Ev → M (List Vl)} {p pos tpos : Pos} {elts : List Expr} {kk : Nat}
/-- the two ways of what is read: a list (live or not), a tuple -/
theorem rdr_run {α β : Type} {R : Lv → Hp → β → α → Prop} {r : Lv} {σ : L2.St} {H : Hp} {S : Sto} {v : V} {w : Vl} {g : Rdr → M α} {Q : β → Hp → Prop} (h : tRun X c W R r σ H S (rdrOf w >>= g) Q) (s : StoRel (wg X) X.K r H S) (q : Rw X.K X.mg r H v w) :
    ∃ a ρ, v = .ref a ∧ (((∃ xs, SqL X.K H a xs) ∧ RIM (wg X) X.K X.mg r H (Itl X.K a) ρ) ∨ ((∃ xs, SqT X.K H a xs) ∧ RIM (wg X) X.K X.mg r H (Itt X.K a) ρ)) ∧ tRun X c W R r σ H S (g ρ) Q := by
  cases w with
  | f x => obtain ⟨_, _, e, _⟩ := h; cases e
  | r lo hi => obtain ⟨_, _, e, _⟩ := h; cases e
  | p a b => obtain ⟨_, _, e, _⟩ := h; cases e
  | d x =>
    cases x with
    | list xs =>
      have q' : Rp X.K r H v (.list xs) := q
      cases q' with
      | @lst a vs _ h1 h2 => exact ⟨a, datR xs, rfl, .inl ⟨⟨vs, h1.sq⟩, _, .ofData (yields_list (vs := vs)), h1, h2⟩, h⟩
    | tuple xs =>
      have q' : Rp X.K r H v (.tuple xs) := q
      cases q' with
      | @tup a vs _ h1 h2 => exact ⟨a, datR xs, rfl, .inr ⟨⟨vs, h1⟩, _, .ofData (yields_tup (vs := vs)), h1, h2⟩, h⟩
    | _ => obtain ⟨_, _, e, _⟩ := h; cases e
  | m k =>
    obtain ⟨a, h1, rfl⟩ := q
    obtain ⟨o, S', e, hq⟩ := h
    rw [M.bind_run] at e
    have e2 : rdrOf (.m k) S = if isSeq S[k]? then some (.ok (liveR k), S) else none := rfl
    rw [e2] at e
    split at e
    · rename_i hs
      cases e
    · rename_i e3
      split at e3
      · cases e3
      · cases e3
    · rename_i hs
      split at hs
      · rename_i hq2
        cases hs
        refine ⟨a, liveR k, rfl, .inl ⟨?_, _, yields_live, h1⟩, o, S', e, hq⟩
        cases hk : S[k]? with
        | none => rw [hk] at hq2; cases hq2
        | some u =>
          rw [hk] at hq2
          have m := s.ob k a u h1 hk
          cases u with
          | l xs => obtain ⟨vs, g1, _⟩ := m; exact ⟨vs, .inl (.inl g1)⟩
          | q xs => obtain ⟨vs, g1, _⟩ := m; exact ⟨vs, .inl (.inl g1)⟩
          | k _ => cases hq2
          | w _ => cases hq2
          | o _ _ => cases hq2
          | z _ => cases hq2
      · cases hs
theorem qi_read (he : QE X c W e fe) : QIM X c W tg e (fRead fe) := pi_weak (pi_sq he) fun σ H R ⟨r, ev, S, x, h⟩ => by
  refine tX.of x h.bind fun v H1 ⟨r1, S1, w, e1, s1, t1, q1, h1⟩ => ?_
  obtain ⟨o, S', eo, ho⟩ := h1
  have h1 : tRun X c W (RIM (wg X) X.K X.mg) r1 σ H1 S1 (rdrOf w >>= fun ρ => pure ρ) R := by
    refine ⟨o, S', ?_, ho⟩
    rw [M.bind_run, eo]
    cases o <;> rfl
  obtain ⟨a, ρ, rfl, hc, h2⟩ := rdr_run h1 s1 q1
  refine ⟨a, rfl, ?_⟩
  rcases hc with ⟨hx, hy⟩ | ⟨hx, hy⟩
  · exact .inl ⟨hx, h2.pure rfl s1 t1 hy⟩
  · exact .inr ⟨hx, h2.pure rfl s1 t1 hy⟩
def iEnumA (K : PySem.W.Frag) (ta : TA) : TI := fun σ H R => ta σ H fun vs H1 => ∃ a, vs = [.ref a] ∧ (((∃ xs, SqL K H1 a xs) ∧ R (Ite K a) H1) ∨ ((∃ xs, SqT K H1 a xs) ∧ R (IteT K a) H1))
theorem pi_enumA {ta : TA} (hg : Gl X "enumerate") (hm : X.mg "enumerate" = none) (ha : PA X [e] ta) (hs : starEach [e] X.env = [(false, eval e X.env)] := by rfl) :
    PI X (.Tuple elts kk tpos) (.Call (.Name "enumerate" p) [e] [] pos) (iEnumA X.K ta) := by
  refine ⟨fun pins s σ H R I h => ?_⟩
  refine Call_ (ld_blt I hg hm boot_enumerate (PyProof.Rows.callWith_type1 (thn (ha.run pos pins s σ H _ I h) fun us s1 ⟨vs, H1, I1, r1, q1⟩ => ?_) hs rfl))
  obtain ⟨a, ex, q⟩ := q1
  subst ex
  cases r1 with
  | cons r rr =>
    cases rr
    cases r
    rcases q with ⟨⟨xs, hq⟩, q⟩ | ⟨⟨xs, hq⟩, q⟩
    · obtain ⟨its, rv, p', hz⟩ := I1.list hq
      refine call_enumerate_list p'.isList fun h' he hit hsz hk => wpAny_pyIter_enum he ?_
      have I2 : Inv X pins σ H1 { s1 with heap := h' } := I1.kept (t' := s1.toks) hk
      refine ⟨s1.heap.objs.size + 1, [s1.heap.objs.size + 1, s1.heap.objs.size], _, _, H1, rfl, I2, turn_enum a (s1.heap.objs.size + 1) s1.heap.objs.size, ⟨⟨.none, he⟩, hit, Nat.succ_ne_self _⟩, fun b hb => ?_, q⟩
      have e' : b = s1.heap.objs.size + 1 ∨ b = s1.heap.objs.size := by simpa using hb
      have hle : s1.heap.objs.size ≤ b := by
        rcases e' with z | z
        · rw [z]; exact Nat.le_add_right _ _
        · rw [z]; exact Nat.le_refl _
      exact I1.fpOk hle (I1.hok.fresh hle)
    · obtain ⟨its, rv, p', hz⟩ := I1.tuple hq
      refine call_enumT (show s1.heap.IsTuple a its.toArray from p') fun h' he hit hsz hk => wpAny_pyIter_enum he ?_
      have I2 : Inv X pins σ H1 { s1 with heap := h' } := I1.kept (t' := s1.toks) hk
      refine ⟨s1.heap.objs.size + 1, [s1.heap.objs.size + 1, s1.heap.objs.size], _, _, H1, rfl, I2, turn_enumT a (s1.heap.objs.size + 1) s1.heap.objs.size, ⟨⟨.none, he⟩, hit, Nat.succ_ne_self _⟩, fun b hb => ?_, q⟩
      have e' : b = s1.heap.objs.size + 1 ∨ b = s1.heap.objs.size := by simpa using hb
      have hle : s1.heap.objs.size ≤ b := by
        rcases e' with z | z
        · rw [z]; exact Nat.le_add_right _ _
        · rw [z]; exact Nat.le_refl _
      exact I1.fpOk hle (I1.hok.fresh hle)
theorem qi_enum (hg : Gl X "enumerate") (hm : X.mg "enumerate" = none) (ha : QA X c W [e] fs) (hs : starEach [e] X.env = [(false, eval e X.env)] := by rfl) : QIM X c W (.Tuple elts kk tpos) (.Call (.Name "enumerate" p) [e] [] pos) (fEnumR fs) := pi_weak (pi_enumA hg hm ha hs) fun σ H R ⟨r, ev, S, x, h⟩ => by
  refine tX.of x h.bind fun vs H1 ⟨r1, S1, ws, e1, s1, t1, q1, h1⟩ => ?_
  split at h1
  · cases q1 with
    | cons q q' =>
      cases q'
      obtain ⟨a, ρ, rfl, hc, h2⟩ := rdr_run h1 s1 q
      refine ⟨a, rfl, ?_⟩
      rcases hc with ⟨hx, F, Y, z⟩ | ⟨hx, F, Y, z⟩
      · exact .inl ⟨hx, h2.pure rfl s1 t1 ⟨F, Y.enumL, z⟩⟩
      · exact .inr ⟨hx, h2.pure rfl s1 t1 ⟨F, Y.enumT, z⟩⟩
  · exact (fail_run h1).elim
end
end DD
/-! part EE -/
set_option Elab.async false
set_option linter.all false
set_option maxRecDepth 100000
set_option maxHeartbeats 4000000
namespace DD
open PySem PySem.Spec PyProof.Rows L2 LamX

/-! ### what is never reached -/
def sFail : SM := fun _ _ => none
def fFail : Ev → M Vl := fun _ => M.fail
section
variable {α β : Type} {X : Cx} {c : Cf} {W : WX} {st : Stmt} {e : Expr} {r r1 : Lv} {σ : L2.St} {H H1 : Hp} {S S1 : Sto} {ev : Ev}
theorem qs_fail : QS X c W st sFail := ⟨fun pins s σ H D I ⟨r, ev, S, x, h⟩ => (none_run h).elim⟩
theorem qe_fail : QE X c W e fFail := ⟨fun pins s σ H Q I ⟨r, ev, S, x, h⟩ => (fail_run h).elim⟩
/-! ### a global number -/
theorem qe_gint {x : Str} {i : Int} {pos : Pos} (hm : ∃ t, X.mg x = some (.int i t)) (hg : Gl X x) (hd : (x == ("__debug__" : Str)) = false := by decide) : QE X c W (.Name x pos) (fC (.int i)) := by
  refine ⟨fun pins s σ H Q I ⟨r, ev, S, z, h⟩ => ?_⟩
  obtain ⟨t, ht⟩ := hm
  exact ld_glob I hg ht ⟨.int i, H, I, ⟨t, rfl⟩, h.pure rfl z.sto z.tabs (show Rp X.K r H (.int i) (.int i) from .int i)⟩ hd

/-! ### live lists of any values -/
def qAt : Vl → M (Nat × List Vl)
  | .m n => fun S => match S[n]? with
    | some (.q ws) => some (.ok (n, ws), S)
    | _ => none
  | _ => M.fail
def putQ (n : Nat) (xs : List Vl) : M Vl := fun S => some (.ok (.d .none), S.set n (.q xs))
theorem qAt_run {R : Lv → Hp → β → α → Prop} {g : Nat × List Vl → M α} {w : Vl} {v : V} {Q : β → Hp → Prop} (h : tRun X c W R r σ H S (qAt w >>= g) Q) (s : StoRel (wg X) X.K r H S) (q : Rw X.K X.mg r H v w) :
    ∃ n a ws vs, r.st[n]? = some a ∧ v = .ref a ∧ S[n]? = some (.q ws) ∧ H a = some (.lst vs) ∧ RvAll X.K r H vs ws ∧ w = .m n ∧ tRun X c W R r σ H S (g (n, ws)) Q := by
  cases w with
  | d x => obtain ⟨_, _, e, _⟩ := h; cases e
  | f x => obtain ⟨_, _, e, _⟩ := h; cases e
  | r lo hi => obtain ⟨_, _, e, _⟩ := h; cases e
  | p a b => obtain ⟨_, _, e, _⟩ := h; cases e
  | m n =>
    obtain ⟨a, h1, rfl⟩ := q
    obtain ⟨o, S', e, h⟩ := h
    rw [M.bind_run] at e
    have e2 : qAt (.m n) S = match S[n]? with
      | some (.q ws) => some (.ok (n, ws), S)
      | _ => none := rfl
    cases q : S[n]? with
    | none => rw [e2, q] at e; cases e
    | some u =>
      cases u with
      | q ws =>
        rw [e2, q] at e
        obtain ⟨vs, h2, h3⟩ := s.ob n a _ h1 q
        exact ⟨n, a, ws, vs, h1, rfl, q, h2, h3, rfl, o, S', e, h⟩
      | l xs => rw [e2, q] at e; cases e
      | k kvs => rw [e2, q] at e; cases e
      | w kvs => rw [e2, q] at e; cases e
      | o c kvs => rw [e2, q] at e; cases e
      | z kvs => rw [e2, q] at e; cases e
theorem StoRel.putQ {wd : Wg} {K : PySem.W.Frag} {n : Nat} {p : Addr} {vs : List V} {xs : List Vl} (s : StoRel wd K r H S) (hp : r.st[n]? = some p) (nf : NoF H p) (h : RvAll K r H vs xs) : StoRel wd K r (upd H p (.lst vs)) (S.set n (.q xs)) :=
  s.putO hp nf fun H' E e => ⟨vs, e, h.ext E⟩
theorem putQ_run {n : Nat} {a : Addr} {ys : List Vl} {us : List V} {Q : VK} (h : tRun X c W (Rw X.K X.mg) r σ H S (putQ n ys) Q) (s : StoRel (wg X) X.K r H S) (t : Tabs c.T H) (hr : r.st[n]? = some a) (nf : NoF H a) (q : RvAll X.K r H us ys) : Q .non (upd H a (.lst us)) := by
  obtain ⟨o, S', e, h⟩ := h
  cases e
  have E : Ext false r r H (upd H a (.lst us)) := Ext.put s.mu (List.mem_of_getElem? hr) nf
  exact h r .non _ E.up (s.putQ hr nf q) (tabs_ext E t) (show Rp X.K _ _ _ _ from .non)
end
/-- o.append(e), any values -/
def fAppendQ (fo fe : Ev → M Vl) : Ev → M Vl := fun ev => do
  let x ← fo ev
  let _ ← qAt x
  let y ← fe ev
  let d ← M.lift (heldOf y)
  let p ← qAt x
  if p.2.length < 1000000 then putQ p.1 (p.2 ++ [d]) else M.fail
/-- o[i], any values -/
def fIxQ (f g : Ev → M Vl) : Ev → M Vl := fun ev => do
  let x ← f ev
  let y ← g ev
  let i ← M.lift (intOf y)
  let p ← qAt x
  let w ← M.lift (atI p.2 i)
  pure w
def fLenQ (f : Ev → M (List Vl)) : Ev → M Vl := fun ev => do
  let ws ← f ev
  match ws with
  | [w] => do
    let p ← qAt w
    pure (.d (.int p.2.length))
  | _ => M.fail
/-- [..], live, of any values -/
def heldAll : List Vl → Option (List Vl)
  | [] => some []
  | w :: ws => match heldOf w, heldAll ws with
    | some u, some us => some (u :: us)
    | _, _ => none
def M.newQ (ds : List Vl) : M Vl := fun S => some (.ok (.m S.length), S ++ [.q ds])
def fMutQ (f : Ev → M (List Vl)) : Ev → M Vl := fun ev => do
  let ws ← f ev
  let ds ← M.lift (heldAll ws)
  if ds.length ≤ 1000 then M.newQ ds else M.fail
/-- o.pop() -/
def fPop (fo : Ev → M Vl) : Ev → M Vl := fun ev => do
  let x ← fo ev
  let p ← mutAt x
  let d ← M.lift (p.2[p.2.length - 1]?)
  let _ ← putAt p.1 p.2.dropLast
  pure (.d d)
/-- o.pop(i) -/
def fPopAt (fo fe : Ev → M Vl) : Ev → M Vl := fun ev => do
  let x ← fo ev
  let _ ← mutAt x
  let y ← fe ev
  let i ← M.lift (intOf y)
  let p ← mutAt x
  if 0 ≤ i ∧ i < 1000000 then do
    let d ← M.lift (p.2[i.toNat]?)
    let _ ← putAt p.1 (p.2.eraseIdx i.toNat)
    pure (.d d)
  else M.fail
theorem RvAll.atI {K : PySem.W.Frag} {r : Lv} {H : Hp} {vs : List V} {ws : List Vl} {i : Int} {w : Vl} (h : RvAll K r H vs ws) (e : L2.atI ws i = some w) : ∃ v, L2.atI vs i = some v ∧ Rv K r H v w := by
  unfold L2.atI at e ⊢
  rw [h.length]
  cases q : ixN ws.length i with
  | none => rw [q] at e; cases e
  | some j =>
    rw [q] at e
    obtain ⟨v, h1, h2⟩ := h.get (show ws[j]? = some w from e)
    exact ⟨v, h1, h2⟩
theorem held_all {K : PySem.W.Frag} {mg : Str → Option Value} {r : Lv} {H : Hp} : ∀ {vs : List V} {ws us : List Vl}, RwAll K mg r H vs ws → heldAll ws = some us → RvAll K r H vs us
  | _, _, _, .nil, e => by cases e; exact .nil
  | _, _, us, .cons h t, e => by
    simp only [heldAll] at e
    split at e
    · rename_i u us' e1 e2
      cases e
      exact .cons (held_ok h e1) (held_all t e2)
    · cases e
theorem RpAll.dropLast {K : PySem.W.Frag} {r : Lv} {H : Hp} {vs : List V} {ds : List PyData} (h : RpAll K r H vs ds) : RpAll K r H vs.dropLast ds.dropLast := by
  rw [List.dropLast_eq_take, List.dropLast_eq_take, h.length]
  exact h.take _
theorem RpAll.eraseIdx {K : PySem.W.Frag} {r : Lv} {H : Hp} : ∀ {vs : List V} {ds : List PyData} (n : Nat), RpAll K r H vs ds → RpAll K r H (vs.eraseIdx n) (ds.eraseIdx n)
  | _, _, _, .nil => .nil
  | _, _, 0, .cons _ t => t
  | _, _, n + 1, .cons h t => .cons h (RpAll.eraseIdx n t)
section
variable {X : Cx} {c : Cf} {W : WX} {e o a b : Expr} {es : List Expr} {fe ge f g : Ev → M Vl} {fs : Ev → M (List Vl)} {pos : Pos}
theorem qe_appendQ {apos cpos : Pos} (ho : QE X c W o fe) (ha : QE X c W e ge)
    (hbase : attributeBase o "append" X.env (eval o X.env) = eval o X.env := by rfl)
    (hfew : ((backTo cpos (starEach [e] X.env)).all (fun x => !x.1) && (backToKw cpos (keywordEach [] X.env)).all (fun x => x.1.isSome)
      && decide (([e] : List Expr).length + ([] : List Keyword).length + (if ([] : List Keyword).isEmpty then 0 else 1) < 30)) = true := by rfl)
    (hline : (apos.endLine == cpos.line) = true := by rfl) (hs : starEach [e] X.env = (false, eval e X.env) :: starEach [] X.env := by rfl) (hplain : (backTo cpos (starEach [] X.env)).any (·.1) = false := by rfl) :
    QE X c W (.Call (.Attribute o "append" apos) [e] [] cpos) (fAppendQ fe ge) := by
  have hh := pe_bm (X := X) (cpos := cpos) (apos := apos) PySem.F.plainAttrs_list PySem.F.slot_list_append PySem.F.type_list_append mt_append ho (pa_cons ha pa_nil hs) hbase hfew hline hs hplain
  refine pe_weak hh fun σ H Q h => ?_
  obtain ⟨r, ev, S, x, h⟩ := h
  refine tX.of x h.bind fun v H1 ⟨r1, S1, w, e1, s1, t1, q1, h1⟩ => ?_
  have x1 := x.ext e1 s1 t1
  obtain ⟨n0, a0, xs0, vs0, hr0, rfl, hs0, hH0, hq0, rfl, h1⟩ := qAt_run h1 s1 q1
  refine ⟨.inl ⟨rfl, _, .inl (.inl hH0)⟩, ?_⟩
  refine tX.of x1 h1.bind fun u H2 ⟨r2, S2, y, e2, s2, t2, q2, h2⟩ => ?_
  obtain ⟨d, ed, h3⟩ := lift_run h2
  obtain ⟨n, a, xs, vs, ra, ev2, sn, ha, hr, _, h4⟩ := qAt_run h3 s2 (q1.ext e2)
  cases ev2
  dsimp only at h4
  split at h4
  · rename_i hz
    refine ⟨a0, vs, u, rfl, rfl, ha, by rw [hr.length, sizeLine_eq]; omega, ?_⟩
    exact putQ_run h4 s2 t2 ra (nofL ha) (hr.append (.cons (held_ok q2 ed) .nil))
  · exact (fail_run h4).elim
theorem qe_ixQ (ha : QE X c W a f) (hb : QE X c W b g) (hs : PlainIx b := by exact fun _ _ => rfl) : QE X c W (.Subscript a b pos) (fIxQ f g) :=
  pe_weak (pe_ix ix_list ha hb hs) fun σ H Q ⟨r, ev, S, x, h⟩ => by
    refine tX.of x h.bind fun v H1 ⟨r1, S1, w, e1, s1, t1, q1, h1⟩ => ?_
    have x1 := x.ext e1 s1 t1
    refine tX.of x1 h1.bind fun u H2 ⟨r2, S2, y, e2, s2, t2, q2, h2⟩ => ?_
    obtain ⟨i, ei, h3⟩ := lift_run h2
    obtain ⟨n, a, ws, vs, ra, ev2, sn, ha, hr, _, h4⟩ := qAt_run h3 s2 (q1.ext e2)
    obtain ⟨z, ez, h5⟩ := tX_last (b := v) h4
    have := intOf_ok q2 ei
    subst this
    obtain ⟨v', ev', qv⟩ := hr.atI ez
    exact ⟨a, vs, i, v', ev2, rfl, .inl (.inl ha), ev', h5.pure rfl s2 t2 qv.rw⟩
theorem qe_lenQ {p : Pos} (hg : Gl X "len") (hm : X.mg "len" = none) (ha : QA X c W (e :: es) fs) (he : starEach (e :: es) X.env = (false, eval e X.env) :: starEach es X.env := by rfl) (hpl : (backTo pos (starEach es X.env)).any (·.1) = false := by rfl) :
    QE X c W (.Call (.Name "len" p) (e :: es) [] pos) (fLenQ fs) :=
  pe_weak (pe_callB call_len_seq hg hm PySem.boot_len ha (by decide) (by decide) he hpl) fun σ H Q ⟨r, ev, S, x, h⟩ => by
    refine tX.of x h.bind fun vs H1 ⟨r1, S1, ws, e1, s1, t1, q1, h1⟩ => ?_
    split at h1
    · cases q1 with
      | cons q q' =>
        cases q'
        obtain ⟨n, a, us, xs, ra, ev2, sn, ha, hr, _, h4⟩ := qAt_run h1 s1 q
        refine ⟨a, xs, by rw [ev2], .inl (.inl (.inl ha)), ?_⟩
        rw [hr.length]
        exact h4.pure rfl s1 t1 (show Rp X.K _ _ _ _ from .int _)
    · exact (fail_run h1).elim
theorem newQ_run {r : Lv} {σ : L2.St} {H : Hp} {S : Sto} {xs : List Vl} {vs : List V} {Q : VK} {l : Addr} (h : tRun X c W (Rw X.K X.mg) r σ H S (M.newQ xs) Q) (s : StoRel (wg X) X.K r H S) (t : Tabs c.T H) (hl : H l = none) (q : RvAll X.K r H vs xs) : Q (.ref l) (upd H l (.lst vs)) := by
  obtain ⟨o, S', e', h3⟩ := h
  cases e'
  have E : Ext false r ⟨r.st ++ [l], r.hid⟩ H (upd H l (.lst vs)) := Ext.newL s.mu hl
  exact h3 ⟨r.st ++ [l], r.hid⟩ (.ref l) _ E.up (s.newO hl fun r' H' E' e => ⟨vs, e, q.ext E'⟩) (tabs_ext E t) ⟨l, by show (r.st ++ [l])[S.length]? = some l; rw [← s.len, List.getElem?_append_right (Nat.le_refl _)]; simp, rfl⟩
theorem heldAll_len : ∀ {ws us : List Vl}, heldAll ws = some us → us.length = ws.length
  | [], _, e => by cases e; rfl
  | w :: ws, us, e => by
    simp only [heldAll] at e
    split at e
    · rename_i u us' e1 e2
      cases e
      simp [heldAll_len e2]
    · cases e
theorem qe_mutQ (ha : QA X c W es fs) : QE X c W (.List es pos) (fMutQ fs) := pe_weak (pe_lst ha) fun σ H Q ⟨r, ev, S, x, h⟩ => by
  refine tX.of x h.bind fun vs H1 ⟨r1, S1, ws, e1, s1, t1, q1, h1⟩ => ?_
  obtain ⟨ds, ed, h2⟩ := lift_run h1
  have q2 := held_all q1 ed
  split at h2
  · rename_i hz
    exact ⟨by rw [q2.length]; exact small1 hz, fun p hp => newQ_run h2 s1 t1 hp q2⟩
  · exact (fail_run h2).elim
theorem putd_run {r : Lv} {σ : L2.St} {H : Hp} {S : Sto} {n : Nat} {a : Addr} {ys : List PyData} {us : List V} {d : PyData} {v : V} {Q : VK} (h : tRun X c W (Rw X.K X.mg) r σ H S (putAt n ys >>= fun _ => pure (.d d)) Q) (s : StoRel (wg X) X.K r H S) (t : Tabs c.T H) (hr : r.st[n]? = some a) (nf : NoF H a) (q : RpAll X.K r H us ys) (qd : Rp X.K r H v d) : Q v (upd H a (.lst us)) := by
  obtain ⟨o, S', e, h⟩ := h
  cases e
  have E : Ext false r r H (upd H a (.lst us)) := Ext.put s.mu (List.mem_of_getElem? hr) nf
  exact h r v _ E.up (s.put hr nf q) (tabs_ext E t) (qd.ext E)
theorem qe_pop {apos cpos : Pos} (ho : QE X c W o fe) (hbase : attributeBase o "pop" X.env (eval o X.env) = eval o X.env := by rfl) (hline : (apos.endLine == cpos.line) = true := by rfl) : QE X c W (.Call (.Attribute o "pop" apos) [] [] cpos) (fPop fe) := by
  have hh := pe_bm0 (X := X) (cpos := cpos) (apos := apos) (o := o) PySem.F.plainAttrs_list PySem.F.slot_list_pop PySem.F.type_list_pop mt_pop ho hbase hline
  refine pe_weak hh fun σ H Q ⟨r, ev, S, x, h⟩ => ?_
  refine tX.of x h.bind fun v H1 ⟨r1, S1, w, e1, s1, t1, q1, h1⟩ => ?_
  obtain ⟨n0, a0, xs0, vs0, hr0, rfl, hs0, hH0, hq0, _, h2⟩ := mutAt_run h1 s1 q1
  refine ⟨.inl ⟨rfl, _, .inl (.inl hH0)⟩, ?_⟩
  obtain ⟨d, ed, h3⟩ := lift_run h2
  dsimp only at ed h3
  obtain ⟨v, hv, qd⟩ := hq0.get ed
  exact ⟨a0, vs0, v, rfl, rfl, hH0, by rw [hq0.length]; exact hv, putd_run h3 s1 t1 hr0 (nofL hH0) hq0.dropLast qd⟩
theorem seqIx {i : Int} {n : Nat} (h0 : 0 ≤ i) (h1 : i.toNat < n) : seqIndex? i n = some i.toNat := by
  unfold seqIndex?
  obtain ⟨k, rfl⟩ := Int.eq_ofNat_of_zero_le h0
  have hk : k < n := by simpa using h1
  simp [hk] <;> omega
theorem qe_popAt {apos cpos : Pos} (ho : QE X c W o fe) (ha : QE X c W e ge)
    (hbase : attributeBase o "pop" X.env (eval o X.env) = eval o X.env := by rfl)
    (hfew : ((backTo cpos (starEach [e] X.env)).all (fun x => !x.1) && (backToKw cpos (keywordEach [] X.env)).all (fun x => x.1.isSome)
      && decide (([e] : List Expr).length + ([] : List Keyword).length + (if ([] : List Keyword).isEmpty then 0 else 1) < 30)) = true := by rfl)
    (hline : (apos.endLine == cpos.line) = true := by rfl) (hs : starEach [e] X.env = (false, eval e X.env) :: starEach [] X.env := by rfl) (hplain : (backTo cpos (starEach [] X.env)).any (·.1) = false := by rfl) :
    QE X c W (.Call (.Attribute o "pop" apos) [e] [] cpos) (fPopAt fe ge) := by
  have hh := pe_bm (X := X) (cpos := cpos) (apos := apos) PySem.F.plainAttrs_list PySem.F.slot_list_pop PySem.F.type_list_pop mt_popAt ho (pa_cons ha pa_nil hs) hbase hfew hline hs hplain
  refine pe_weak hh fun σ H Q ⟨r, ev, S, x, h⟩ => ?_
  refine tX.of x h.bind fun v H1 ⟨r1, S1, w, e1, s1, t1, q1, h1⟩ => ?_
  have x1 := x.ext e1 s1 t1
  obtain ⟨n0, a0, xs0, vs0, hr0, rfl, hs0, hH0, hq0, rfl, h1⟩ := mutAt_run h1 s1 q1
  refine ⟨.inl ⟨rfl, _, .inl (.inl hH0)⟩, ?_⟩
  refine tX.of x1 h1.bind fun u H2 ⟨r2, S2, y, e2, s2, t2, q2, h2⟩ => ?_
  obtain ⟨i, ei, h3⟩ := lift_run h2
  obtain ⟨n, a, xs, vs, ra, ev2, sn, ha, hr, _, h4⟩ := mutAt_run h3 s2 (q1.ext e2)
  cases ev2
  dsimp only at h4
  split at h4
  · rename_i hz
    obtain ⟨d, ed, h5⟩ := lift_run h4
    obtain ⟨v, hv, qd⟩ := hr.get ed
    have := intOf_ok q2 ei
    subst this
    have hlt := (List.getElem?_eq_some_iff.mp hv).1
    exact ⟨a0, vs, i, i.toNat, v, rfl, rfl, ha, by omega, by omega, seqIx hz.1 hlt, hv, putd_run h5 s2 t2 ra (nofL ha) (hr.eraseIdx _) qd⟩
  · exact (fail_run h4).elim
end
end DD
/-! part EF -/
set_option Elab.async false
set_option linter.all false
set_option maxRecDepth 100000
set_option maxHeartbeats 4000000
namespace DD
open PySem PySem.Spec PyProof.Rows L2 LamX

/-! ### {} -/
def M.newW (kvs : List (NestedKey × Vl)) : M Vl := fun S => some (.ok (.m S.length), S ++ [.w kvs])
def fK0 : Ev → M Vl := fun _ => M.newK []
def fW0 : Ev → M Vl := fun _ => M.newW []
section
variable {X : Cx} {c : Cf} {W : WX} {pos : Pos}
theorem newO_run {r : Lv} {σ : L2.St} {H : Hp} {S : Sto} {m : MO} {o : HO} {Q : VK} {l : Addr} {q : M Vl} (h : tRun X c W (Rw X.K X.mg) r σ H S q Q) (eq : q S = some (.ok (.m S.length), S ++ [m])) (s : StoRel (wg X) X.K r H S) (t : Tabs c.T H) (hl : H l = none)
    (k : ∀ r' H', Ext false r r' H H' → H' l = some o → MoR (wg X) X.K r' H' l m) : Q (.ref l) (upd H l o) := by
  obtain ⟨o2, S', e', h3⟩ := h
  rw [eq] at e'
  cases e'
  have E : Ext false r ⟨r.st ++ [l], r.hid⟩ H (upd H l o) := Ext.newL s.mu hl
  exact h3 ⟨r.st ++ [l], r.hid⟩ (.ref l) _ E.up (s.newO hl k) (tabs_ext E t) ⟨l, by show (r.st ++ [l])[S.length]? = some l; rw [← s.len, List.getElem?_append_right (Nat.le_refl _)]; simp, rfl⟩
theorem dict0 {m : MO} {q : M Vl} (eq : ∀ S, q S = some (.ok (.m S.length), S ++ [m])) (k : ∀ r' H' (l : Addr), H' l = some (HoD X.w l []) → MoR (wg X) X.K r' H' l m) : QE X c W (.Dict [] [] pos) (fun _ => q) :=
  ⟨fun pins s σ H Q I ⟨r, ev, S, x, h⟩ => wpAny_Dict_empty ⟨.ref s.heap.objs.size, _, I.laid (a := s.heap.objs.size) (o := HoD X.w s.heap.objs.size []) (t' := s.toks) (fun _ _ q => Heap.get?_push_of_some _ q) (Nat.le_refl _) (hoD_ok (dform_empty (P := X.prog) I.big)), rfl,
    newO_run h (eq S) x.sto x.tabs (I.hok.fresh (Nat.le_refl _)) fun r' H' _ e => k r' H' _ e⟩⟩
theorem qe_k0 : QE X c W (.Dict [] [] pos) fK0 := dict0 (m := .k []) (fun _ => rfl) fun r' H' l e => ⟨[], e, .nil⟩
theorem qe_w0 : QE X c W (.Dict [] [] pos) fW0 := dict0 (m := .w []) (fun _ => rfl) fun r' H' l e => ⟨[], e, .nil⟩
end

/-! ### del d[k] -/
def dropKV (kvs : List (NK × PyData)) (k : NK) : List (NK × PyData) := kvs.filter fun p => decide (p.1.toN ≠ k.toN)
def dropVV (ps : List (NestedKey × Addr × V)) (k : NestedKey) : List (NestedKey × Addr × V) := ps.filter fun p => decide (p.1 ≠ k)
theorem RpKV.drop {K : PySem.W.Frag} {r : Lv} {H : Hp} {ps : List (NestedKey × Addr × V)} {qs : List (NK × PyData)} (h : RpKV K r H ps qs) (k : NK) : RpKV K r H (dropVV ps k.toN) (dropKV qs k) := by
  induction h with
  | nil => exact .nil
  | @cons k0 b v d ps qs h1 h2 _ ih =>
    unfold dropVV dropKV at ih ⊢
    by_cases e : k0.toN = k.toN
    · rw [List.filter_cons_of_neg (by simp [e]), List.filter_cons_of_neg (by simp [e])]; exact ih
    · rw [List.filter_cons_of_pos (by simp [e]), List.filter_cons_of_pos (by simp [e])]; exact .cons h1 h2 ih
theorem KVn.drop {ps : List (NestedKey × Addr × V)} {vs : List (Option Key × Value)} (h : KVn ps vs) (j : Option Key) : KVn (dropVV ps (nkeyV j)) (without vs j) := by
  unfold KVn at h
  induction h with
  | nil => exact .nil
  | @cons p q ps qs hh t ih =>
    unfold dropVV without at ih ⊢
    by_cases e : q.1 = j
    · have e2 : p.1 = nkeyV j := by rw [hh.1, e]
      rw [List.filter_cons_of_neg (by simp [e2]), List.filter_cons_of_neg (by simp [e])]; exact ih
    · have e2 : ¬ p.1 = nkeyV j := fun z => e (nkeyV_inj (hh.1.symm.trans z))
      rw [List.filter_cons_of_pos (by simp [e2]), List.filter_cons_of_pos (by simp [e])]; exact .cons hh ih
theorem KTn.drop {ps : List (NestedKey × Addr × V)} {xs : List (NestedKey × Addr × Value)} (h : KTn ps xs) (k : NestedKey) : KTn (dropVV ps k) (withoutH xs k) := by
  unfold KTn at h
  induction h with
  | nil => exact .nil
  | @cons p q ps qs hh t ih =>
    unfold dropVV withoutH at ih ⊢
    by_cases e : q.1 = k
    · have e2 : p.1 = k := by rw [hh.1, e]
      rw [List.filter_cons_of_neg (by simp [e2]), List.filter_cons_of_neg (by simp [e])]; exact ih
    · have e2 : ¬ p.1 = k := fun z => e (hh.1.symm.trans z)
      rw [List.filter_cons_of_pos (by simp [e2]), List.filter_cons_of_pos (by simp [e])]; exact .cons hh ih
theorem dropVV_len (ps : List (NestedKey × Addr × V)) (k : NestedKey) : (dropVV ps k).length ≤ ps.length := List.length_filter_le _ _
section
variable {X : Cx} {pins : List (Addr × Obj)} {σ : L2.St} {r : Lv} {H : Hp} {s : Shared} {a : Addr} {ps : List (NestedKey × Addr × V)} {qs : List (NK × PyData)} {x : V} {u : Value} {k : NK} {A : Around} {E : Value → Shared → Prop}
theorem kd_del (hu : A.units + 64 < cLine) {Q : Unit → Shared → Prop} (I : Inv X pins σ H s) (c : KeyAt X r H x a ps qs k) (ru : RelV x u) (hw : H a = some (HoD X.w a ps)) (hd : (lookK qs k).isSome = true)
    (h : ∀ s', Inv X pins σ (upd H a (HoD X.w a (dropVV ps k.toN))) s' → Q () s') : wpAny (model X.prog X.w) A (delItem (.ref a) u) Q E s := by
  have wr : ∀ {h' : Heap} {t' : Nat}, Heap.SameBut a s.heap h' → DForm X.w a (dropVV ps k.toN) h' → Inv X pins σ (upd H a (HoD X.w a (dropVV ps k.toN))) { s with heap := h', toks := t' } := fun {h' t'} hs df => by
    obtain ⟨o, _, _, e, _⟩ := df.obj
    exact d_write I (by rw [hw]; exact True.intro) hs ⟨o, e⟩ (hoD_ok df)
  have hlen : ps.length ≤ sizeLine := (dform_at I c.at_).1
  have hl2 : (dropVV ps k.toN).length ≤ sizeLine := Nat.le_trans (dropVV_len ps k.toN) hlen
  rcases c.cases I ru with ⟨j, vs, e, hk, kv, dd⟩ | ⟨b, ks, xs, e1, e2, e3, q, hk, kt, dd⟩
  · have there : (valueAt vs j).isSome = true := by rw [← (kv.val j).isSome_eq, ← e, c.kv.isSome]; exact hd
    refine wpAny_delItem_slot (dd X.prog).typeIs (by decide) PySem.F.slot_dict_delitem (call_meetsIn PySem.F.slot_dict_delitem (dd X.prog).typeIs PySem.F.entry_dict_delitem (PySem.F.args_dict_delitem_2 _ _)
      (meets_dict_delitem_pairs (noneKind X.prog X.w) a hk) ⟨vs, dd X.prog, by rw [← Paired.length kv]; exact hlen, there, fun h' dd' hs => h _ (wr hs ⟨hl2, c.sys I, .inl ⟨without vs j, ?_, fun P => dictOf_P dd'⟩⟩)⟩)
    rw [e]; exact kv.drop j
  · subst e2
    have z := (kt.val k.toN).isSome_eq
    rw [Option.isSome_map, c.kv.isSome, hd] at z
    obtain ⟨p, hp⟩ := Option.isSome_iff_exists.mp z.symm
    refine wpAny_delItem_heap (show A.in1.units + 8 < cLine by show A.units + 1 + 8 < cLine; omega) hk (c.sys I) dd hp (fun h' dd' hs => h _ (wr hs ⟨hl2, c.sys I, .inr ⟨fun p hp => ?_, withoutH xs k.toN, kt.drop k.toN, ?_⟩⟩)) (by rw [← Paired.length kt]; exact hlen)
    · have ft := c.kv.flav_t c.fl
      have hp' : p ∈ ps := (List.mem_filter.mp hp).1
      have e9 : isTupK p.1 = true := by rw [ft p hp', e3]; rfl
      cases hq : p.1 with
      | tup ks => exact ⟨ks, rfl⟩
      | none => rw [hq] at e9; cases e9
      | num _ => rw [hq] at e9; cases e9
      | text _ => rw [hq] at e9; cases e9
    · obtain ⟨o, es, ep, g1, g2, g3, g4, _, g5⟩ := dd'
      exact ⟨o, es, ep, g1, g2, g3, g4, g5⟩
end
def sDel (fd fe : Ev → M Vl) : Ev → M Vl := fun ev => do
  let y ← fd ev
  let x ← fe ev
  let p ← dictAtK y
  let k ← M.lift (keyFor p.2 x)
  if (lookK p.2 k).isSome then putDict p.1 (dropKV p.2 k) else M.fail
section
variable {X : Cx} {c : Cf} {W : WX} {e a b o i : Expr} {f g h fe fd fz : Ev → M Vl} {pos tpos : Pos}
def tDelK (X : Cx) (to ti : TE) : TS := fun D σ H => to σ H fun x H1 => ti σ H1 fun y H2 => ∃ r a ps kvs k, x = .ref a ∧ KeyAt X r H2 y a ps kvs k ∧ H2 a = some (HoD X.w a ps) ∧ (lookK kvs k).isSome = true ∧ D.nx σ (upd H2 a (HoD X.w a (dropVV ps k.toN)))
theorem ps_delK (hu : X.A.units + 64 < cLine) {to ti : TE} (ho : PE X o to) (hi : PE X i ti) : PS X (.Delete [.Subscript o i tpos] pos) (tDelK X to ti) := by
  refine ⟨fun pins s σ H D I h => ?_⟩
  refine wpAny_Delete (wpAny_deleteEach_cons (wpAny_delete_Subscript (thn (ho.run pins s σ H _ I h) fun u s1 ⟨x, H1, I1, rx, q1⟩ => thn (hi.run pins s1 σ H1 _ I1 q1) fun iv s2 ⟨y, H2, I2, ry, q2⟩ => ?_)))
  obtain ⟨r, a, ps, kvs, k, ex, ka, hw, l, q⟩ := q2
  subst ex
  cases (show u = Value.ref a from rx)
  exact kd_del hu I2 ka ry hw l fun s3 I3 => wpAny_deleteEach_nil ⟨σ, _, I3, q⟩
theorem qs_del (hu : X.A.units + 64 < cLine) (ho : QE X c W o f) (hi : QE X c W i g) : QS X c W (.Delete [.Subscript o i tpos] pos) (sExpr (sDel f g)) := by
  refine ps_weak (ps_delK hu ho hi) fun D σ H ⟨r, ev, S, x, hh⟩ => ?_
  have hh := hh.onE (R := Rw X.K X.mg) x
  refine tX.of x hh.bind fun v H1 ⟨r1, S1, w, e1, s1, t1, q1, h1⟩ => ?_
  have x1 := x.ext e1 s1 t1
  refine tX.of x1 h1.bind fun iv H3 ⟨r3, S3, k0, e3, s3, t3, q3, h4⟩ => ?_
  obtain ⟨n, a, kvs, ps, g1, rfl, g2, g3, g4, rfl, h5⟩ := dictAtK_run h4 s3 (q1.ext e3)
  obtain ⟨k, ek, h6⟩ := lift_run h5
  dsimp only at h6
  split at h6
  · rename_i hz
    refine ⟨r3, a, ps, kvs, k, rfl, keyFor_at (K := X.K) ek q3 (.inl g3) g4, g3, hz, ?_⟩
    obtain ⟨o', S', e', h7⟩ := h6
    cases e'
    have E : Ext false r3 r3 H3 (upd H3 a (HoD X.w a (dropVV ps k.toN))) := Ext.put s3.mu (List.mem_of_getElem? g1) (nofE g3)
    have st := s3.putO (o := HoD X.w a (dropVV ps k.toN)) (m := .k (dropKV kvs k)) g1 (nofE g3) fun H' E' e' => ⟨_, e', RpKV.map (fun _ _ q => E'.sqf q) (fun _ _ q => E'.sqt q) (g4.drop k)⟩
    obtain ⟨r', S', w', E9, x', _, q'⟩ := h7 r3 .non _ E.up st (tabs_ext E t3) (show Rp X.K _ _ _ _ from .non)
    exact q'.nx x'
  · exact (fail_run h6).elim
end

/-! ### dicts of any values, keys by value -/
def dictW : Vl → M (Nat × List (NestedKey × Vl))
  | .m n => fun S => match S[n]? with
    | some (.w kvs) => some (.ok (n, kvs), S)
    | _ => none
  | _ => M.fail
def keyW (kvs : List (NestedKey × Vl)) (w : Vl) : Option NestedKey := match datOf w with
  | some d => match keyN d with
    | some k => if (!k.isTup && !k.isBool) && kvs.all (fun p => !isTupK p.1) then some k.toN else none
    | none => none
  | none => none
def lookW (kvs : List (NestedKey × Vl)) (k : NestedKey) : Option Vl := (kvs.find? fun p => decide (p.1 = k)).map (·.2)
def putWK (kvs : List (NestedKey × Vl)) (k : NestedKey) (d : Vl) : List (NestedKey × Vl) :=
  if kvs.any (fun p => decide (p.1 = k)) then kvs.map (fun p => if p.1 = k then (p.1, d) else p) else kvs ++ [(k, d)]
def putDictW (n : Nat) (kvs : List (NestedKey × Vl)) : M Vl := fun S => some (.ok (.d .none), S.set n (.w kvs))
def fWIn (neg : Bool) (fe fd : Ev → M Vl) : Ev → M Vl := fun ev => do
  let x ← fe ev
  let y ← fd ev
  let p ← dictW y
  let k ← M.lift (keyW p.2 x)
  pure (.d (.bool (if neg then !(lookW p.2 k).isSome else (lookW p.2 k).isSome)))
def fWGet (fd fe : Ev → M Vl) : Ev → M Vl := fun ev => do
  let y ← fd ev
  let x ← fe ev
  let p ← dictW y
  let k ← M.lift (keyW p.2 x)
  let z ← M.lift (lookW p.2 k)
  pure z
def fWSet (fv fd fe : Ev → M Vl) : Ev → M Vl := fun ev => do
  let v ← fv ev
  let z ← M.lift (heldOf v)
  let y ← fd ev
  let x ← fe ev
  let p ← dictW y
  let k ← M.lift (keyW p.2 x)
  if p.2.length < 1000000 then putDictW p.1 (putWK p.2 k z) else M.fail
section
variable {K : PySem.W.Frag} {r : Lv} {H : Hp} {ps : List (NestedKey × Addr × V)} {qs : List (NestedKey × Vl)}
theorem RvKV.look (h : RvKV K r H ps qs) (k : NestedKey) : (lookV ps k = none ∧ lookW qs k = none) ∨ ∃ v d, lookV ps k = some v ∧ lookW qs k = some d ∧ Rv K r H v d := by
  induction h with
  | nil => exact .inl ⟨rfl, rfl⟩
  | @cons k0 b v d ps qs h1 h2 _ ih =>
    by_cases e : k0 = k
    · exact .inr ⟨v, d, by simp [lookV, e], by simp [lookW, e], h2⟩
    · rcases ih with ⟨a, b'⟩ | ⟨v', d', a, b', q⟩
      · exact .inl ⟨by simpa [lookV, List.find?_cons, e] using a, by simpa [lookW, List.find?_cons, e] using b'⟩
      · exact .inr ⟨v', d', by simpa [lookV, List.find?_cons, e] using a, by simpa [lookW, List.find?_cons, e] using b', q⟩
theorem RvKV.isSome (h : RvKV K r H ps qs) (k : NestedKey) : (lookV ps k).isSome = (lookW qs k).isSome := by
  rcases h.look k with ⟨a, b⟩ | ⟨v, d, a, b, _⟩ <;> rw [a, b] <;> rfl
theorem RvKV.any (h : RvKV K r H ps qs) (k : NestedKey) : (ps.any fun p => decide (p.1 = k)) = (qs.any fun p => decide (p.1 = k)) := by
  induction h with
  | nil => rfl
  | cons _ _ _ ih => rw [List.any_cons, List.any_cons, ih]
theorem RvKV.len (h : RvKV K r H ps qs) : ps.length = qs.length := by
  induction h with
  | nil => rfl
  | cons _ _ _ ih => simp [ih]
theorem RvKV.flat (h : RvKV K r H ps qs) : (qs.all fun p => !isTupK p.1) = true → ∀ p ∈ ps, isTupK p.1 = false := by
  induction h with
  | nil => exact fun _ p hp => nomatch hp
  | @cons k b v d ps qs h1 h2 _ ih =>
    intro o p hp
    obtain ⟨o1, o2⟩ := Bool.and_eq_true_iff.mp (by rw [List.all_cons] at o; exact o)
    rcases List.mem_cons.mp hp with e | hp
    · rw [e]; simpa using o1
    · exact ih o2 p hp
theorem RvKV.put {k : NestedKey} {b : Addr} {v : V} {d : Vl} (h : RvKV K r H ps qs) (hk : isTupK k = false) (q : Rv K r H v d) : RvKV K r H (putVV ps k b v) (putWK qs k d) := by
  have hk' : ∀ ks, k = .tup ks → Rp K r H (.ref b) k.data ∧ k.depth ≤ 8 := fun ks e => by rw [e] at hk; cases hk
  unfold putVV putWK
  rw [h.any k]
  split
  · have mp : ∀ {ps : List (NestedKey × Addr × V)} {qs : List (NestedKey × Vl)}, RvKV K r H ps qs → RvKV K r H (ps.map (fun p => if p.1 = k then (p.1, p.2.1, v) else p)) (qs.map (fun p => if p.1 = k then (p.1, d) else p)) := by
      intro ps qs h
      induction h with
      | nil => exact .nil
      | @cons k0 b0 v0 d0 ps qs h1 h2 _ ih =>
        rw [List.map_cons, List.map_cons]
        by_cases e : k0 = k
        · rw [if_pos e, if_pos e]; exact .cons h1 q ih
        · rw [if_neg e, if_neg e]; exact .cons h1 h2 ih
    exact mp h
  · have ap : ∀ {ps : List (NestedKey × Addr × V)} {qs : List (NestedKey × Vl)}, RvKV K r H ps qs → RvKV K r H (ps ++ [(k, b, v)]) (qs ++ [(k, d)]) := by
      intro ps qs h
      induction h with
      | nil => exact .cons hk' q .nil
      | cons h1 h2 _ ih => exact .cons h1 h2 ih
    exact ap h
end
structure KeyWt (X : Cx) (r : Lv) (H : Hp) (x : V) (a : Addr) (ps : List (NestedKey × Addr × V)) (qs : List (NestedKey × Vl)) (k : NestedKey) : Prop where
  at_ : H a = some (HoD X.w a ps)
  kv : RvKV X.K r H ps qs
  key : ∃ d k', Rp X.K r H x d ∧ keyN d = some k' ∧ k = k'.toN ∧ k'.isBool = false
  kf : isTupK k = false
  fl : ∀ p ∈ ps, isTupK p.1 = false
section
variable {α β : Type} {X : Cx} {c : Cf} {W : WX} {r r1 : Lv} {H H1 : Hp} {S S1 : Sto} {ev : Ev} {pins : List (Addr × Obj)} {σ : L2.St} {s : Shared} {a : Addr} {ps : List (NestedKey × Addr × V)} {qs : List (NestedKey × Vl)} {x : V} {u : Value} {k : NestedKey} {A : Around} {E : Value → Shared → Prop}
theorem KeyWt.vals (c : KeyWt X r H x a ps qs k) (I : Inv X pins σ H s) (ru : RelV x u) : ∃ j vs, k = nkeyV j ∧ (noneKind X.prog X.w).is j u = true ∧ KVn ps vs ∧ (∀ P : Program, s.heap.DictOf (noneKind P X.w) a vs) := by
  obtain ⟨d, k', q, e, ek, nb⟩ := c.key
  obtain ⟨j, hj⟩ := nkeyV_of c.kf
  obtain ⟨vs, h1, h2⟩ := dform_val (dform_at I (.inl c.at_)) c.fl
  exact ⟨j, vs, hj, nkeyV_is (ek ▸ hj) nb e q ru, h1, h2⟩
theorem KeyWt.sys (c : KeyWt X r H x a ps qs k) (I : Inv X pins σ H s) : (a == sysModules) = false := (dform_at I (.inl c.at_)).2.1
theorem KeyWt.typeIs (c : KeyWt X r H x a ps qs k) (I : Inv X pins σ H s) : s.TypeIs (.ref a) "dict" := (hoD_type I (.inl c.at_)).1
theorem kw_in {neg : Bool} {Q : Value → Shared → Prop} (I : Inv X pins σ H s) (c : KeyWt X r H x a ps qs k) (ru : RelV x u) (h : ∀ s', Inv X pins σ H s' → Q (.bool (if neg then !(lookW qs k).isSome else (lookW qs k).isSome)) s') : wpAny (model X.prog X.w) A (compareOp (if neg then .NotIn else .In) u (.ref a)) Q E s := by
  obtain ⟨j, vs, e, hk, kv, dd⟩ := c.vals I ru
  cases neg with
  | false =>
    refine wpAny_in_of hk (c.sys I) (dd X.prog).mapOf ?_
    rw [← (kv.val j).isSome_eq, ← e, c.kv.isSome]
    exact h _ (I.tok _)
  | true =>
    refine wpAny_notIn_of hk (c.sys I) (dd X.prog).mapOf ?_
    rw [← (kv.val j).isSome_eq, ← e, c.kv.isSome]
    exact h _ (I.tok _)
theorem kw_get {Q : Value → Shared → Prop} {d : Vl} (I : Inv X pins σ H s) (c : KeyWt X r H x a ps qs k) (ru : RelV x u) (hd : lookW qs k = some d) (h : ∀ v w' s', Inv X pins σ H s' → RelV v w' → Rv X.K r H v d → Q w' s') : wpAny (model X.prog X.w) A (getItem (.ref a) u) Q E s := by
  obtain ⟨v, d', hv, hd', qv⟩ : ∃ v d', lookV ps k = some v ∧ lookW qs k = some d' ∧ Rv X.K r H v d' := by
    rcases c.kv.look k with ⟨_, z⟩ | z
    · rw [hd] at z; cases z
    · exact z
  rw [hd] at hd'
  cases hd'
  obtain ⟨j, vs, e, hk, kv, dd⟩ := c.vals I ru
  obtain ⟨w', hw, rw'⟩ := RelO.some_of (v := v) (o := valueAt vs j) (by rw [← hv, e]; exact kv.val j)
  exact wpAny_getItem_of hk (dd X.prog).mapOf hw (h v w' _ (I.tok _) rw' qv)
theorem kw_set {Q : Unit → Shared → Prop} {v : V} {z : Value} (I : Inv X pins σ H s) (c : KeyWt X r H x a ps qs k) (ru : RelV x u) (rz : RelV v z) (hl : ps.length < sizeLine)
    (h : ∀ s', Inv X pins σ (upd H a (HoD X.w a (putVV ps k 0 v))) s' → Q () s') : wpAny (model X.prog X.w) A (setItem (.ref a) u z) Q E s := by
  have len : (putVV ps k 0 v).length ≤ sizeLine := by
    unfold putVV
    split
    · rw [List.length_map]; omega
    · rw [List.length_append]; exact Nat.succ_le_of_lt hl
  obtain ⟨j, vs, e, hk, kv, dd⟩ := c.vals I ru
  have hz : vs.length ≤ sizeLine := by rw [← Paired.length kv]; omega
  refine wpAny_setItem_pairs (hsz := hz) hk (dd X.prog) fun h' dd' hs => ?_
  have df : DForm X.w a (putVV ps k 0 v) h' := ⟨len, c.sys I, .inl ⟨stored vs j z, by rw [e]; exact kv.put j rz, fun P => dictOf_P dd'⟩⟩
  obtain ⟨o, _, _, eo, _⟩ := df.obj
  exact h _ (d_write I (by rw [c.at_]; exact True.intro) hs ⟨o, eo⟩ (hoD_ok df))
theorem dictW_run {R : Lv → Hp → β → α → Prop} {g : Nat × List (NestedKey × Vl) → M α} {w : Vl} {v : V} {Q : β → Hp → Prop} (h : tRun X c W R r σ H S (dictW w >>= g) Q) (s : StoRel (wg X) X.K r H S) (q : Rw X.K X.mg r H v w) :
    ∃ n a kvs ps, r.st[n]? = some a ∧ v = .ref a ∧ S[n]? = some (.w kvs) ∧ H a = some (HoD X.w a ps) ∧ RvKV X.K r H ps kvs ∧ w = .m n ∧ tRun X c W R r σ H S (g (n, kvs)) Q := by
  cases w with
  | d x => obtain ⟨_, _, e, _⟩ := h; cases e
  | f x => obtain ⟨_, _, e, _⟩ := h; cases e
  | r lo hi => obtain ⟨_, _, e, _⟩ := h; cases e
  | p a b => obtain ⟨_, _, e, _⟩ := h; cases e
  | m n =>
    obtain ⟨a, h1, rfl⟩ := q
    obtain ⟨o, S', e, h⟩ := h
    rw [M.bind_run] at e
    have e2 : dictW (.m n) S = match S[n]? with
      | some (.w kvs) => some (.ok (n, kvs), S)
      | _ => none := rfl
    cases q : S[n]? with
    | none => rw [e2, q] at e; cases e
    | some u =>
      cases u with
      | l xs => rw [e2, q] at e; cases e
      | q xs => rw [e2, q] at e; cases e
      | k xs => rw [e2, q] at e; cases e
      | o c xs => rw [e2, q] at e; cases e
      | z xs => rw [e2, q] at e; cases e
      | w kvs =>
        rw [e2, q] at e
        obtain ⟨ps, h2, h3⟩ := s.ob n a _ h1 q
        exact ⟨n, a, kvs, ps, h1, rfl, q, h2, h3, rfl, o, S', e, h⟩
theorem keyW_at {x : V} {w : Vl} {a : Addr} {ps : List (NestedKey × Addr × V)} {kvs : List (NestedKey × Vl)} {k : NestedKey} (e : keyW kvs w = some k) (q : Rw X.K X.mg r H x w) (h1 : H a = some (HoD X.w a ps)) (h2 : RvKV X.K r H ps kvs) : KeyWt X r H x a ps kvs k := by
  unfold keyW at e
  cases ed : datOf w with
  | none => rw [ed] at e; cases e
  | some d =>
    rw [ed] at e
    simp only at e
    cases ek : keyN d with
    | none => rw [ek] at e; cases e
    | some j =>
      rw [ek] at e
      simp only at e
      split at e
      · rename_i hb
        cases e
        rw [Bool.and_eq_true, Bool.and_eq_true] at hb
        exact ⟨h1, h2, ⟨d, j, datOf_ok q ed, ek, rfl, by simpa using hb.1.2⟩, (isTup_toN j).trans (by simpa using hb.1.1), h2.flat hb.2⟩
      · cases e
end
section
variable {X : Cx} {c : Cf} {W : WX} {e a b o i : Expr} {f g h fe fd fz : Ev → M Vl} {pos tpos : Pos}
def rWIn (X : Cx) (neg : Bool) : R2 := fun x y H Q => ∃ r a ps kvs k, y = .ref a ∧ KeyWt X r H x a ps kvs k ∧ Q (.bl (if neg then !(lookW kvs k).isSome else (lookW kvs k).isSome)) H
theorem op_wIn (neg : Bool) : OpR X (compareOp (if neg then .NotIn else .In)) (rWIn X neg) := by
  intro pins s σ H x y v u Q I rx ry h
  obtain ⟨r, a, ps, kvs, k, rfl, ka, q⟩ := h
  cases ry
  exact kw_in I ka rx fun s' I' => ⟨.bl _, H, I', rfl, q⟩
theorem wIn_weak {neg : Bool} {σ : L2.St} {H : Hp} {Q : VK} (hh : tE X c W (fWIn neg f g) σ H Q) : tOp (rWIn X neg) (tE X c W f) (tE X c W g) σ H Q := by
  obtain ⟨r, ev, S, x, hh⟩ := hh
  refine tX.of x hh.bind fun v H1 ⟨r1, S1, w, e1, s1, t1, q1, h1⟩ => ?_
  have x1 := x.ext e1 s1 t1
  refine tX.of x1 h1.bind fun u H2 ⟨r2, S2, y, e2, s2, t2, q2, h2⟩ => ?_
  obtain ⟨n, a, kvs, ps, g1, rfl, g2, g3, g4, rfl, h3⟩ := dictW_run h2 s2 q2
  obtain ⟨k, ek, h4⟩ := lift_run h3
  exact ⟨r2, a, ps, kvs, k, rfl, keyW_at ek (q1.ext e2) g3 g4, h4.pure rfl s2 t2 (.bl _)⟩
theorem qe_wIn (neg : Bool) (ha : QE X c W a f) (hb : QE X c W b g) (hm : behindInMarks (if neg then .NotIn else .In) b = false := by first | exact nomark _ (by decide) (by decide) | with_unfolding_all rfl) :
    QE X c W (.Compare a [if neg then .NotIn else .In] [b] pos) (fWIn neg f g) := pe_weak (pe_cmpR (op_wIn neg) ha hb hm) fun σ H Q h => wIn_weak h
theorem qt_wIn (neg : Bool) (ha : QE X c W a f) (hb : QE X c W b g) (hm : behindInMarks (if neg then .NotIn else .In) b = false := by first | exact nomark _ (by decide) (by decide) | with_unfolding_all rfl) :
    QT X c W (.Compare a [if neg then .NotIn else .In] [b] pos) (fB (fWIn neg f g)) := pt_weak (pt_cmpR (op_wIn neg) ha hb hm) fun σ H Q h => wIn_weak (fB_of h)
def rWGet (X : Cx) : R2 := fun x y H Q => ∃ r a ps kvs k d, x = .ref a ∧ KeyWt X r H y a ps kvs k ∧ lookW kvs k = some d ∧ ∀ v, Rv X.K r H v d → Q v H
theorem ix_wGet : IxR X (rWGet X) := by
  intro value slice pins s σ H x y v u Q I rx ry h hs
  obtain ⟨r, a, ps, kvs, k, d, rfl, ka, ed, q⟩ := h
  cases rx
  exact tail_any (ka.typeIs I) slot_dict_getitem.lookup (kw_get I ka ry ed fun v w' s' I' rw' qv => ⟨v, H, I', rw', q v qv⟩) hs
theorem qe_wGet (ha : QE X c W a f) (hb : QE X c W b g) (hs : PlainIx b := by exact fun _ _ => rfl) : QE X c W (.Subscript a b pos) (fWGet f g) :=
  pe_weak (pe_ix ix_wGet ha hb hs) fun σ H Q ⟨r, ev, S, x, hh⟩ => by
    refine tX.of x hh.bind fun v H1 ⟨r1, S1, w, e1, s1, t1, q1, h1⟩ => ?_
    have x1 := x.ext e1 s1 t1
    refine tX.of x1 h1.bind fun u H2 ⟨r2, S2, y, e2, s2, t2, q2, h2⟩ => ?_
    obtain ⟨n, a, kvs, ps, g1, rfl, g2, g3, g4, rfl, h3⟩ := dictW_run h2 s2 (q1.ext e2)
    obtain ⟨k, ek, h4⟩ := lift_run h3
    exact (match tX_last (b := V.non) h4 with
      | ⟨d, ed, h5⟩ => ⟨r2, a, ps, kvs, k, d, rfl, keyW_at ek q2 g3 g4, ed, fun v qv => h5.pure rfl s2 t2 qv.rw⟩)
def rSetW (X : Cx) : TSet := fun x y v H Q => ∃ r a ps kvs k, x = .ref a ∧ KeyWt X r H y a ps kvs k ∧ ps.length < sizeLine ∧ Q (upd H a (HoD X.w a (putVV ps k 0 v)))
theorem set_dictW : PSet X (rSetW X) := by
  intro pins s σ H x y v ov iv u Q I ro ri rv h
  obtain ⟨r, a, ps, kvs, k, rfl, ka, hl, q⟩ := h
  cases ro
  exact kw_set I ka ri rv hl fun s' I' => ⟨_, I', q⟩
theorem qs_wSet {tpos : Pos} (hv : QE X c W e f) (ho : QE X c W o g) (hi : QE X c W i h)
    (ha : ∀ v, assign (.Subscript o i tpos) X.env v = (do
      let ov ← holding [v] (eval o X.env)
      let iv ← holding [v, ov] (eval i X.env)
      standAt tpos
      holding [v, ov, iv] (setItem ov iv v)
      release [v, ov, iv] []) := by intro _; rfl)
    (hs : swapsWithSole [.Subscript o i tpos] e pos.line X.env = pure false := by rfl) (hw : swappedStores [.Subscript o i tpos] e X.env = pure none := by rfl)
    (h1 : (assignEach [.Subscript o i tpos] X.env).map (·.2) = [assign (.Subscript o i tpos) X.env] := by rfl) : QS X c W (.Assign [.Subscript o i tpos] e pos) (sExpr (fWSet f g h)) := by
  refine ps_weak (ps_asg hv (pg_sub ho hi set_dictW ha) hs hw h1) fun D σ H ⟨r, ev, S, x, hh⟩ => ?_
  have hh := hh.onE (R := Rw X.K X.mg) x
  refine tX.of x hh.bind fun v H1 ⟨r1, S1, w, e1, s1, t1, q1, h1⟩ => ?_
  have x1 := x.ext e1 s1 t1
  obtain ⟨z, ez, h2⟩ := lift_run h1
  refine tX.of x1 h2.bind fun ov H2 ⟨r2, S2, y, e2, s2, t2, q2, h3⟩ => ?_
  have x2 := x1.ext e2 s2 t2
  refine tX.of x2 h3.bind fun iv H3 ⟨r3, S3, k0, e3, s3, t3, q3, h4⟩ => ?_
  obtain ⟨n, a, kvs, ps, g1, rfl, g2, g3, g4, rfl, h5⟩ := dictW_run h4 s3 (q2.ext e3)
  obtain ⟨k, ek, h6⟩ := lift_run h5
  dsimp only at h6
  split at h6
  · rename_i hz
    have ka := keyW_at ek q3 g3 g4
    refine ⟨r3, a, ps, kvs, k, rfl, ka, by rw [g4.len, sizeLine_eq]; exact Nat.lt_of_lt_of_le hz (by omega), ?_⟩
    obtain ⟨o', S', e', h7⟩ := h6
    cases e'
    have E : Ext false r3 r3 H3 (upd H3 a (HoD X.w a (putVV ps k 0 v))) := Ext.put s3.mu (List.mem_of_getElem? g1) (nofE g3)
    have st := s3.putO (o := HoD X.w a (putVV ps k 0 v)) (m := .w (putWK kvs k z)) g1 (nofE g3) fun H' E' e' => ⟨_, e', RvKV.ext (g4.put ka.kf (((held_ok q1 ez).ext e2).ext e3)) E'⟩
    obtain ⟨r', S', w', E9, x', _, q'⟩ := h7 r3 .non _ E.up st (tabs_ext E t3) (show Rp X.K _ _ _ _ from .non)
    exact q'.nx x'
  · exact (fail_run h6).elim
end
end DD
/-! part EG -/
set_option Elab.async false
set_option linter.all false
set_option maxRecDepth 100000
set_option maxHeartbeats 4000000
namespace DD
open PySem PySem.Spec PyProof.Rows L2 LamX

/-! ### a dict walked: locked -/
def keyVal : NestedKey → Addr → V
  | .none, _ => .non
  | .num i, _ => .int i
  | .text x, _ => .str x
  | .tup _, b => .ref b
structure EntsAt (od : Obj) (ps : List (NestedKey × Addr × V)) (es : Array DictEntry) (ep : Nat) : Prop where
  ex : od.ExactDict
  dat : od.data = .dict es ep
  size : es.size = ps.length
  ent : ∀ (i : Nat) (k : NestedKey) (b : Addr) (v : V), ps[i]? = some (k, b, v) → ∃ en, es[i]? = some en ∧ RelV (keyVal k b) en.key ∧ RelV v en.val
theorem nk_rel {j : Option Key} {b : Addr} {u : Value} (h : nkIs j u = true) : RelV (keyVal (nkeyV j) b) u := by
  cases j with
  | none => have e := nk_none h; subst e; exact rfl
  | some k =>
    have q := relV_key (show keyIs k u = true from h)
    cases k with
    | inl i => exact q
    | inr x => exact q
theorem dform_ents {P : Program} {wd : World} {a : Addr} {ps : List (NestedKey × Addr × V)} {h : Heap} {od : Obj} (x : DForm wd a ps h) (ho : h.get? a = some od) : ∃ es ep, EntsAt od ps es ep := by
  obtain ⟨_, _, ⟨vs, kv, d⟩ | ⟨ht, xs, kt, o, es, ep, e, c, dd, he, _⟩⟩ := x
  · obtain ⟨o, es, ep, e, c, dd, _, hp, _⟩ := d P
    rw [ho] at e
    cases e
    refine ⟨es, ep, c, dd, ?_, ?_⟩
    · rw [← Array.length_toList, Pairs.length hp]; exact (Paired.length kv).symm
    · intro i k b v hi
      have main : ∀ {ps : List (NestedKey × Addr × V)} {vs : List (Option Key × Value)} {l : List DictEntry} {i : Nat}, KVn ps vs → Pairs (noneKind P wd) l vs → ps[i]? = some (k, b, v) → ∃ en, l[i]? = some en ∧ RelV (keyVal k b) en.key ∧ RelV v en.val := by
        intro ps vs l i kv
        unfold KVn at kv
        induction kv generalizing l i with
        | nil => intro _ z; simp at z
        | @cons p q ps vs hh t ih =>
          intro hp z
          cases hp with
          | cons g1 g2 g3 =>
            cases i with
            | zero =>
              simp at z
              subst z
              have g1' : nkIs q.1 _ = true := g1
              refine ⟨_, rfl, ?_, ?_⟩
              · have := nk_rel (b := b) g1'
                have hk : k = nkeyV q.1 := hh.1
                rw [hk]; exact this
              · rw [g2]; exact hh.2
            | succ i =>
              obtain ⟨en, h1, h2⟩ := ih (i := i) g3 (by simpa using z)
              exact ⟨en, by simpa using h1, h2⟩
      obtain ⟨en, h1, h2⟩ := main kv hp hi
      exact ⟨en, by rw [← Array.getElem?_toList]; exact h1, h2⟩
  · rw [ho] at e
    cases e
    refine ⟨es, ep, c, dd, ?_, ?_⟩
    · rw [← Array.length_toList, he, List.length_map]; exact (Paired.length kt).symm
    · intro i k b v hi
      obtain ⟨ks, hk⟩ := ht _ (List.mem_of_getElem? hi)
      have hk : k = .tup ks := hk
      have get : ∀ {ps : List (NestedKey × Addr × V)} {xs : List (NestedKey × Addr × Value)} {i : Nat}, KTn ps xs → ps[i]? = some (k, b, v) → ∃ z, xs[i]? = some z ∧ k = z.1 ∧ b = z.2.1 ∧ RelV v z.2.2 := by
        intro ps xs i kt
        unfold KTn at kt
        induction kt generalizing i with
        | nil => intro z; simp at z
        | @cons p q ps vs hh t ih =>
          intro z
          cases i with
          | zero => simp at z; subst z; exact ⟨q, rfl, hh.1, hh.2.1, hh.2.2⟩
          | succ i =>
            obtain ⟨z', h1, h2⟩ := ih (i := i) (by simpa using z)
            exact ⟨z', by simpa using h1, h2⟩
      obtain ⟨z, hz, e1, e2, e3⟩ := get kt hi
      refine ⟨_, by rw [← Array.getElem?_toList, he, List.getElem?_map, hz]; rfl, ?_, e3⟩
      rw [hk, e2]
      exact rfl
section
variable {X : Cx} {pins : List (Addr × Obj)} {σ : L2.St} {H : Hp} {s : Shared} {d : Addr} {od : Obj} {ps : List (NestedKey × Addr × V)}
theorem frz_ents (I : Inv X pins σ H s) (h : H d = some (.frz od (HoD X.w d ps))) : (d == sysModules) = false ∧ s.heap.get? d = some od ∧ ∃ es ep, EntsAt od ps es ep := by
  obtain ⟨ho, x⟩ := (show s.heap.get? d = some od ∧ ObjOk X.prog X.w H s.heap d (HoD X.w d ps) from I.hok d _ h)
  have df := (show DForm X.w d ps s.heap from x.1)
  exact ⟨df.2.1, ho, dform_ents (P := X.prog) df ho⟩
end
def ItK (w : World) (d : Addr) (od : Obj) (ps : List (NestedKey × Addr × V)) : It :=
  ⟨fun i H => H d = some (.frz od (HoD w d ps)) ∧ i < ps.length, fun i H x H' => H' = H ∧ ∃ k b v, ps[i]? = some (k, b, v) ∧ x = keyVal k b, fun i H => H d = some (.frz od (HoD w d ps)) ∧ ps.length ≤ i⟩
def ItI (w : World) (d : Addr) (od : Obj) (ps : List (NestedKey × Addr × V)) : It :=
  ⟨fun i H => H d = some (.frz od (HoD w d ps)) ∧ i < ps.length, fun i H x H' => ∃ T k b v, ps[i]? = some (k, b, v) ∧ x = .ref T ∧ H T = none ∧ H' = upd H T (.tup [keyVal k b, v]), fun i H => H d = some (.frz od (HoD w d ps)) ∧ ps.length ≤ i⟩
theorem ents_same {od : Obj} {ps : List (NestedKey × Addr × V)} {es es' : Array DictEntry} {ep ep' : Nat} (a : EntsAt od ps es ep) (b : EntsAt od ps es' ep') : es' = es ∧ ep' = ep := by
  have h := a.dat.symm.trans b.dat
  cases h
  exact ⟨rfl, rfl⟩
section
variable {P : Program} {w : World} {K : PySem.W.Frag} {tg : Expr} {d : Addr} {od : Obj} {ps : List (NestedKey × Addr × V)} {es : Array DictEntry} {ep : Nat}
theorem turn_dkeys (it : Addr) (en0 : EntsAt od ps es ep) : Turn P w K tg (ItK w d od ps) [it] it (fun i h => h.IsKeyIter it d i ps.length ep) where
  mem := by simp
  obj := fun i h st b hb => by
    obtain rfl : b = it := by simpa using hb
    obtain ⟨oi, e, c, dd⟩ := st
    exact ⟨oi, e, fun v z => by rw [dd] at z; cases z⟩
  keep := fun i h h' st k => st.at fun oi e => k it (by simp) oi e
  item := by
    intro X hP hw hK hc i pins s σ H E I hf st hg
    subst hP hw hK
    obtain ⟨hd, hi⟩ := hg
    obtain ⟨f0, f1, f2, f3, f4, f5⟩ := hf it (by simp)
    obtain ⟨hs, hgd, es', ep', en1⟩ := frz_ents I hd
    obtain ⟨rfl, rfl⟩ := ents_same en0 en1
    obtain ⟨⟨k, b, v⟩, hkv⟩ : ∃ p, ps[i]? = some p := ⟨ps[i], List.getElem?_eq_getElem hi⟩
    obtain ⟨en, hen, hkey, _⟩ := en0.ent i k b v hkv
    refine next_key_item st hgd en0.dat en0.size hen fun h' st' sb => ?_
    have I1 : Inv X pins σ H { s with heap := h' } := I.turned (t' := s.toks) (fun b ob hb e => (sb.2 b hb).trans e) f0 f1 f3 f4 f5
    obtain ⟨oi, e, c, dd⟩ := id st'
    exact ⟨en.key, rfl, go_of (s := { s with heap := h' }) e c dd (by decide) ⟨keyVal k b, H, I1, hkey, ⟨rfl, k, b, v, hkv, rfl⟩, st', fun b hb => (hf b hb).1⟩⟩
  done := by
    intro X hP hw hK hc i pins s σ H E I hf st hg
    subst hP hw hK
    obtain ⟨hd, hi⟩ := hg
    obtain ⟨f0, f1, f2, f3, f4, f5⟩ := hf it (by simp)
    obtain ⟨hs, hgd, es', ep', en1⟩ := frz_ents I hd
    obtain ⟨rfl, rfl⟩ := ents_same en0 en1
    exact next_key_end (I.ok.hd hc) st hgd en0.dat en0.size hi fun h' eb => ⟨rfl, I.turned (t' := s.toks) (fun b ob hb e => eb b ob hb e) f0 f1 f3 f4 f5⟩
  self := fun A i s Q E st h => by
    refine wpAny_pyIter_slot st.typeIs F.slot_dict_keyiterator_iter (wpAny_call_entry F.slot_dict_keyiterator_iter st.typeIs F.entry_dict_keyiterator_iter ?_ (F.args_dict_keyiterator_iter_1 _))
    show wpAny _ _ (ret (.ref it)) _ _ s
    exact wpAny_pure ⟨_, rfl, "dict_keyiterator", _, st.typeIs, F.slot_dict_keyiterator_next.lookup, h⟩
theorem turn_ditems {elts : List Expr} {kk : Nat} {tpos : Pos} (it : Addr) (en0 : EntsAt od ps es ep) : Turn P w K (.Tuple elts kk tpos) (ItI w d od ps) [it] it (fun i h => ∃ ok ov, IsItemIter h it d i es.size ep ok ov) where
  mem := by simp
  obj := fun i h st b hb => by
    obtain rfl : b = it := by simpa using hb
    obtain ⟨ok, ov, e⟩ := st
    exact ⟨_, e, fun v z => nomatch z⟩
  keep := fun i h h' st k => let ⟨ok, ov, e⟩ := st; ⟨ok, ov, k it (by simp) _ e⟩
  item := by
    intro X hP hw hK hc i pins s σ H E I hf st hg
    subst hP hw hK
    obtain ⟨hd, hi⟩ := hg
    obtain ⟨hs, hgd, es', ep', en1⟩ := frz_ents I hd
    obtain ⟨rfl, rfl⟩ := ents_same en0 en1
    obtain ⟨⟨k, b, v⟩, hkv⟩ : ∃ p, ps[i]? = some p := ⟨ps[i], List.getElem?_eq_getElem hi⟩
    obtain ⟨en, hen, hkey, hval⟩ := en0.ent i k b v hkv
    obtain ⟨hlt, hge⟩ := Array.getElem?_eq_some_iff.mp hen
    obtain ⟨ok, ov, he⟩ := st
    have hil : it < s.heap.objs.size := Heap.lt_size he
    refine DT.nextI he ⟨od, hgd, en0.ex, en0.dat⟩ hlt fun h' ho hT hz hk => ?_
    rw [hge] at ho hT
    refine ⟨_, rfl, wpAny_letOwnedTupleGo_items (s := { s with heap := h' }) ho fun h'' he' sb => ?_⟩
    have hT2 : h''.get? s.heap.objs.size = some { cls := .type "tuple", data := .seq #[en.key, en.val] } := (sb.2 _ (Nat.ne_of_gt hil)).trans hT
    have new : ObjOk X.prog X.w (upd H s.heap.objs.size (.tup [keyVal k b, v])) h'' s.heap.objs.size (.tup [keyVal k b, v]) :=
      ⟨by show 2 ≤ sizeLine; decide, [en.key, en.val], .cons hkey (.cons hval .nil), ⟨_, hT2, rfl, _, rfl⟩⟩
    have I1 : Inv X pins σ (upd H s.heap.objs.size (.tup [keyVal k b, v])) { s with heap := h'' } :=
      I.turnedNew (t' := s.toks) (ch := [it]) (fun b ob hb e => (sb.2 b (by simpa using hb)).trans (hk b ob (by simpa using hb) e)) hf (Nat.le_refl _) new
    refine ⟨.ref s.heap.objs.size, _, I1, rfl, ⟨_, k, b, v, hkv, rfl, I.hok.fresh (Nat.le_refl _), rfl⟩, ⟨_, _, he'⟩, fun b hb => ?_⟩
    obtain rfl : b = it := by simpa using hb
    rw [upd_ne (Nat.ne_of_lt hil)]
    exact (hf b (by simp)).1
  done := by
    intro X hP hw hK hc i pins s σ H E I hf st hg
    subst hP hw hK
    obtain ⟨hd, hi⟩ := hg
    obtain ⟨f0, f1, f2, f3, f4, f5⟩ := hf it (by simp)
    obtain ⟨hs, hgd, es', ep', en1⟩ := frz_ents I hd
    obtain ⟨rfl, rfl⟩ := ents_same en0 en1
    obtain ⟨ok, ov, he⟩ := st
    exact DT.endI (I.ok.hd hc) he ⟨od, hgd, en0.ex, en0.dat⟩ (by rw [en0.size]; exact hi) fun h' eb => ⟨rfl, I.turned (t' := s.toks) (fun b ob hb e => eb b ob hb e) f0 f1 f3 f4 f5⟩
  self := fun A i s Q E st h => let ⟨_, _, e⟩ := st; PySem.W.kcp_self e h
end
section
variable {X : Cx} {tg e : Expr} {td : TE} {apos cpos : Pos}
def iDK (X : Cx) (td : TE) : TI := fun σ H R => td σ H fun x H1 => ∃ d od ps, x = .ref d ∧ H1 d = some (.frz od (HoD X.w d ps)) ∧ R (ItK X.w d od ps) H1
def iDI (X : Cx) (td : TE) : TI := fun σ H R => td σ H fun x H1 => ∃ d od ps, x = .ref d ∧ H1 d = some (.frz od (HoD X.w d ps)) ∧ R (ItI X.w d od ps) H1
theorem pi_dkeys (he : PE X e td) : PI X tg e (iDK X td) := by
  refine ⟨fun pins s σ H R I h => thn (he.run pins s σ H _ I h) fun u s1 ⟨x, H1, I1, rx, d, od, ps, ex, hd, q⟩ => ?_⟩
  subst ex
  obtain rfl : u = Value.ref d := rx
  obtain ⟨hs, hgd, es, ep, en⟩ := frz_ents I1 hd
  refine iter_keys hs hgd en.ex en.dat (pi_one (tk := s1.toks) I1 _ (turn_dkeys _ en) ⟨_, Heap.get?_push_size _ rfl, rfl, ?_⟩ q)
  rw [en.size] <;> rfl
theorem pi_ditems {elts : List Expr} {kk : Nat} {tpos : Pos} (he : PE X e td) (hbase : attributeBase e "items" X.env (eval e X.env) = eval e X.env := by rfl) (hline : (apos.endLine == cpos.line) = true := by rfl) :
    PI X (.Tuple elts kk tpos) (.Call (.Attribute e "items" apos) [] [] cpos) (iDI X td) := by
  refine ⟨fun pins s σ H R I h => ?_⟩
  refine wpAny_Call_method (T := "dict") (id := "dict.items") hbase rfl hline F.plainAttrs_dict F.slot_dict_items F.type_dict_items (thn (he.run pins s σ H _ I h) fun u s1 ⟨x, H1, I1, rx, d, od, ps, ex, hd, q⟩ => ?_)
  subst ex
  obtain rfl : u = Value.ref d := rx
  obtain ⟨hs, hgd, es, ep, en⟩ := frz_ents I1 hd
  have raw : DT.Raw s1.heap d es ep := ⟨od, hgd, en.ex, en.dat⟩
  refine ⟨raw.typeIs, fun b q => by cases q; exact ⟨od, hgd, en.ex.2.1⟩, ?_⟩
  have I2 : Inv X pins σ H1 { s1 with heap := s1.heap.push { cls := .type "dict_items", data := .fields #[.ref d] } } := I1.kept (t' := s1.toks) fun b ob q => Heap.get?_push_of_some _ q
  have fin : wpAny (model X.prog X.w) X.A (pyIter (.ref s1.heap.objs.size)) (PIE X pins σ (.Tuple elts kk tpos) R) X.xe { s1 with heap := s1.heap.push { cls := .type "dict_items", data := .fields #[.ref d] } } :=
    DT.iterI (d := d) ⟨_, Heap.get?_push_size _ rfl, rfl, rfl⟩ (raw.push _) (pi_one (tk := s1.toks) I2 _ (turn_ditems _ en) ⟨.none, .none, Heap.get?_push_size _ rfl⟩ q)
  exact method_meetsIn F.slot_dict_items F.entry_dict_items rfl (PySem.evalArgs_none ⟨rfl, raw.typeIs, F.args_dict_items_1 _, _, DT.meetsItems (es := es) (ep := ep) hs, ⟨raw, fin⟩⟩)
end

/-! ### as data -/
def itemD (p : NK × PyData) : PyData := .tuple [p.1.data, p.2]
theorem RpKV.at_ {K : PySem.W.Frag} {r : Lv} {H : Hp} {ps : List (NestedKey × Addr × V)} {qs : List (NK × PyData)} (h : RpKV K r H ps qs) : ∀ {i : Nat} {q : NK × PyData}, qs[i]? = some q → ∃ b v, ps[i]? = some (q.1.toN, b, v) ∧ Rp K r H (keyVal q.1.toN b) q.1.data ∧ Rp K r H v q.2 := by
  induction h with
  | nil => intro i q e; simp at e
  | @cons k b v d ps qs h1 h2 _ ih =>
    intro i q e
    cases i with
    | zero =>
      simp at e
      subst e
      refine ⟨b, v, rfl, ?_, h2⟩
      cases k with
      | none => exact .non
      | num i => exact .int i
      | bool _ => cases h1.1
      | text x => exact .str x
      | tup ks => exact (h1.2 ks rfl).1
    | succ i => exact ih (by simpa using e)
section
variable {wd : Wg} {K : PySem.W.Frag} {d : Addr} {od : Obj} {ps : List (NestedKey × Addr × V)} {qs : List (NK × PyData)}
theorem RpKV.hide {r : Lv} {H : Hp} {D : Addr} (h : RpKV K r H ps qs) (hD : H D = none) : RpKV K (r.hide D) (upd H D (.lst [])) ps qs := by
  refine h.map (fun b ys hb => sqf_hide hb hD) fun b ys hb => ?_
  rcases hb with (hb | ⟨o, hb⟩) | hb
  · exact .inl (.inl (by rw [upd_ne (ne_of_none hb hD)]; exact hb))
  · exact .inl (.inr ⟨o, by rw [upd_ne (ne_of_none hb hD)]; exact hb⟩)
  · exact .inr hb
def Fd (w : World) (K : PySem.W.Frag) (d : Addr) (od : Obj) (ps : List (NestedKey × Addr × V)) (qs : List (NK × PyData)) : Lv → Hp → Prop := fun r H => d ∈ r.st ∧ H d = some (.frz od (HoD w d ps)) ∧ RpKV K r H ps qs
theorem fd_ext {lam : Bool} {r r' : Lv} {H H' : Hp} (h : Fd wd.w K d od ps qs r H) (e : Ext lam r r' H H') : Fd wd.w K d od ps qs r' H' := by
  obtain ⟨h1, h2, h3⟩ := h
  refine ⟨?_, e.lock _ _ _ h2, RpKV.map (fun _ _ q => e.sqf q) (fun _ _ q => e.sqt q) h3⟩
  obtain ⟨l, rfl, _⟩ := e.pre
  exact List.mem_append_left _ h1
theorem fd_hide {r : Lv} {H : Hp} {D : Addr} (h : Fd wd.w K d od ps qs r H) (hD : H D = none) : Fd wd.w K d od ps qs (r.hide D) (upd H D (.lst [])) :=
  ⟨h.1, by rw [upd_ne (ne_of_none h.2.1 hD)]; exact h.2.1, h.2.2.hide hD⟩
theorem fd_putH {r : Lv} {H : Hp} {S : Sto} {D : Addr} {xs : List V} (h : Fd wd.w K d od ps qs r H) (s : StoRel wd K r H S) (hD : D ∈ r.hid) : Fd wd.w K d od ps qs r (upd H D (.lst xs)) := by
  have ne : d ≠ D := fun z => s.apart D hD (z ▸ h.1)
  exact ⟨h.1, by rw [upd_ne ne]; exact h.2.1, RpKV.map (fun _ _ q => sqf_putH s.mu hD q) (fun _ _ q => sqt_putH s.mu hD q) h.2.2⟩
theorem RpKV.len {r : Lv} {H : Hp} (h : RpKV K r H ps qs) : ps.length = qs.length := h.length
theorem yields_dk : Yields wd K (ItK wd.w d od ps) (qs.map fun p => p.1.data) (Fd wd.w K d od ps qs) where
  go := fun r H i h hi => ⟨h.2.1, by rw [h.2.2.len]; simpa using hi⟩
  yld := fun r H S i q x H' h s e y => by
    obtain ⟨e1, k, b, v, hk, e2⟩ := y
    subst e1; subst e2
    rw [List.getElem?_map] at e
    cases hq : qs[i]? with
    | none => rw [hq] at e; cases e
    | some p =>
      rw [hq] at e
      cases e
      obtain ⟨b', v', hp, r1, _⟩ := h.2.2.at_ hq
      rw [hk] at hp
      cases hp
      exact ⟨s.refl, s, r1⟩
  stop := fun r H h => ⟨h.2.1, by rw [h.2.2.len]; simp⟩
  ext := fun lam r r' H H' h e => fd_ext h e
  hide := fun r H S D h s hD => fd_hide h hD
  putH := fun r H S D xs h s hD => fd_putH h s hD
theorem yields_di : Yields wd K (ItI wd.w d od ps) (qs.map itemD) (Fd wd.w K d od ps qs) where
  go := fun r H i h hi => ⟨h.2.1, by rw [h.2.2.len]; simpa using hi⟩
  yld := fun r H S i q x H' h s e y => by
    obtain ⟨T, k, b, v, hk, e1, hT, e2⟩ := y
    subst e1; subst e2
    rw [List.getElem?_map] at e
    cases hq : qs[i]? with
    | none => rw [hq] at e; cases e
    | some p =>
      rw [hq] at e
      cases e
      obtain ⟨b', v', hp, r1, r2⟩ := h.2.2.at_ hq
      rw [hk] at hp
      cases hp
      have E : Ext false r r H (upd H T (.tup [keyVal p.1.toN b, v])) := Ext.new s.mu hT
      exact ⟨E, s.new hT, .tup (.inl (.inl upd_same)) (.cons (r1.ext E) (.cons (r2.ext E) .nil))⟩
  stop := fun r H h => ⟨h.2.1, by rw [h.2.2.len]; simp⟩
  ext := fun lam r r' H H' h e => fd_ext h e
  hide := fun r H S D h s hD => fd_hide h hD
  putH := fun r H S D xs h s hD => fd_putH h s hD
end
/-- what a walk over a locked dict gives: keys, items -/
def fLocked (items : Bool) (f : Ev → M Vl) : Ev → M (List PyData) := fun ev => do
  let w ← f ev
  match w with
  | .m n => fun S => match S[n]? with
    | some (.z kvs) => some (.ok (if items then kvs.map itemD else kvs.map fun p => p.1.data), S)
    | _ => none
  | _ => M.fail
section
variable {X : Cx} {c : Cf} {W : WX} {tg e : Expr} {fe : Ev → M Vl} {apos cpos pos : Pos}
theorem locked_run {items : Bool} {r : Lv} {σ : L2.St} {H : Hp} {S : Sto} {w : Vl} {v : V} {R : It → Hp → Prop} (h : tRun X c W (RI (wg X) X.K) r σ H S (match w with
  | .m n => fun S => match S[n]? with
    | some (.z kvs) => some (.ok (if items then kvs.map itemD else kvs.map fun p => p.1.data), S)
    | _ => none
  | _ => M.fail) R) (s : StoRel (wg X) X.K r H S) (t : Tabs c.T H) (q : Rw X.K X.mg r H v w) : ∃ d od ps, v = .ref d ∧ H d = some (.frz od (HoD X.w d ps)) ∧ R (if items then ItI X.w d od ps else ItK X.w d od ps) H := by
  cases w with
  | d x => obtain ⟨_, _, e, _⟩ := h; cases e
  | f x => obtain ⟨_, _, e, _⟩ := h; cases e
  | r lo hi => obtain ⟨_, _, e, _⟩ := h; cases e
  | p a b => obtain ⟨_, _, e, _⟩ := h; cases e
  | m n =>
    obtain ⟨a, h1, rfl⟩ := q
    obtain ⟨o, S', e, hq⟩ := h
    dsimp only at e
    split at e
    · rename_i kvs hk
      obtain ⟨ps, od, h2, h3⟩ := s.ob n a _ h1 hk
      cases e
      refine ⟨a, od, ps, rfl, h2, hq r _ H s.refl s t ?_⟩
      have fd : Fd X.w X.K a od ps kvs r H := ⟨List.mem_of_getElem? h1, h2, h3⟩
      cases items with
      | true => exact ⟨_, yields_di, fd⟩
      | false => exact ⟨_, yields_dk, fd⟩
    · cases e
theorem qi_dkeys (he : QE X c W e fe) : QI X c W tg e (fLocked false fe) := pi_weak (pi_dkeys he) fun σ H R ⟨r, ev, S, x, h⟩ => by
  refine tX.of x h.bind fun v H1 ⟨r1, S1, w, e1, s1, t1, q1, h1⟩ => ?_
  exact locked_run (items := false) h1 s1 t1 q1
theorem qi_ditems {elts : List Expr} {kk : Nat} {tpos : Pos} (he : QE X c W e fe) (hbase : attributeBase e "items" X.env (eval e X.env) = eval e X.env := by rfl) (hline : (apos.endLine == cpos.line) = true := by rfl) :
    QI X c W (.Tuple elts kk tpos) (.Call (.Attribute e "items" apos) [] [] cpos) (fLocked true fe) := pi_weak (pi_ditems he hbase hline) fun σ H R ⟨r, ev, S, x, h⟩ => by
  refine tX.of x h.bind fun v H1 ⟨r1, S1, w, e1, s1, t1, q1, h1⟩ => ?_
  exact locked_run (items := true) h1 s1 t1 q1
end

/-! ### the lock -/
def zAt (n : Nat) (S : Sto) : Option Sto := match S[n]? with
  | some (.k kvs) => some (S.set n (.z kvs))
  | _ => none
def unzAt (n : Nat) (S : Sto) : Option Sto := match S[n]? with
  | some (.z kvs) => some (S.set n (.k kvs))
  | _ => none
/-- the statement runs while the dict in the i-th name is locked -/
def sLock (i : Nat) (f : SM) : SM := fun ev S => match ev[i]? with
  | some (some (.m n)) => match zAt n S with
    | some S1 => match f ev S1 with
      | some (.nx, ev2, S2) => (unzAt n S2).map fun S3 => (.nx, ev2, S3)
      | some (.rt w, ev2, S2) => (unzAt n S2).map fun S3 => (.rt w, ev2, S3)
      | _ => none
    | none => none
  | _ => none
section
variable {X : Cx} {c : Cf} {W : WX} {st : Stmt} {f : SM} {wd : Wg} {K : PySem.W.Frag}
theorem StoRel.z {r : Lv} {H : Hp} {S S1 : Sto} {n : Nat} {a : Addr} (s : StoRel wd K r H S) (hr : r.st[n]? = some a) (hz : zAt n S = some S1) :
    ∃ ps, H a = some (HoD wd.w a ps) ∧ ∀ od, Ext false r r H (upd H a (.frz od (HoD wd.w a ps))) ∧ StoRel wd K r (upd H a (.frz od (HoD wd.w a ps))) S1 := by
  unfold zAt at hz
  split at hz
  · rename_i kvs hk
    cases hz
    obtain ⟨ps, h1, h2⟩ := s.ob n a _ hr hk
    refine ⟨ps, h1, fun od => ?_⟩
    have E : Ext false r r H (upd H a (.frz od (HoD wd.w a ps))) := Ext.put s.mu (List.mem_of_getElem? hr) (nofE h1)
    exact ⟨E, s.putO hr (nofE h1) fun H' E' e => ⟨ps, od, e, RpKV.map (fun _ _ q => E'.sqf q) (fun _ _ q => E'.sqt q) h2⟩⟩
  · cases hz
theorem unlock {r r' : Lv} {H H' : Hp} {S' S3 : Sto} {n : Nat} {a : Addr} {od : Obj} {ps : List (NestedKey × Addr × V)} (hr : r.st[n]? = some a) (h0 : H a = some (HoD wd.w a ps)) (mu : ∀ x, r.yes x → MutL (H x)) (E : Ext false r r' (upd H a (.frz od (HoD wd.w a ps))) H') (s : StoRel wd K r' H' S') (hu : unzAt n S' = some S3) :
    H' a = some (.frz od (HoD wd.w a ps)) ∧ Ext false r r' H (upd H' a (HoD wd.w a ps)) ∧ StoRel wd K r' (upd H' a (HoD wd.w a ps)) S3 ∧ ∀ mg v w, Rw K mg r' H' v w → Rw K mg r' (upd H' a (HoD wd.w a ps)) v w := by
  have hz := E.lock a od _ upd_same
  have hm : a ∈ r.st := List.mem_of_getElem? hr
  have pre := E.pre
  have hm' : a ∈ r'.st := by obtain ⟨l, e, _⟩ := pre; rw [e]; exact List.mem_append_left _ hm
  have hr' : r'.st[n]? = some a := by
    obtain ⟨l, e, _⟩ := pre; rw [e]
    show (r.st ++ l)[n]? = some a
    rw [List.getElem?_append_left (List.getElem?_eq_some_iff.mp hr).1]; exact hr
  have nt : ∀ {lam : Bool} {x : Addr}, Nt lam (upd H a (.frz od (HoD wd.w a ps))) x → Nt lam H x := fun {lam x} h => by
    by_cases e : x = a
    · subst e
      rcases h with h | ⟨_, _, h⟩ <;> rw [upd_same] at h <;> cases h
    · rcases h with h | ⟨l, q, h⟩
      · rw [upd_ne e] at h; exact .inl h
      · rw [upd_ne e] at h; exact .inr ⟨l, q, h⟩
  have kS : ∀ {b : Addr} {o : HO}, b ≠ a → H' b = some o → upd H' a (HoD wd.w a ps) b = some o := fun hb e => by rw [upd_ne hb]; exact e
  have sf : ∀ b xs, SqF K r' H' b xs → SqF K r' (upd H' a (HoD wd.w a ps)) b xs := fun b xs h => by
    rcases h with ⟨h, hn⟩ | ⟨o, h⟩ | h
    · exact .inl ⟨kS (fun z => by rw [z, hz] at h; cases h) h, hn⟩
    · exact .inr (.inl ⟨o, kS (fun z => by rw [z, hz] at h; cases h) h⟩)
    · exact .inr (.inr h)
  have stt : ∀ b xs, SqT K H' b xs → SqT K (upd H' a (HoD wd.w a ps)) b xs := fun b xs h => by
    rcases h with (h | ⟨o, h⟩) | h
    · exact .inl (.inl (kS (fun z => by rw [z, hz] at h; cases h) h))
    · exact .inl (.inr ⟨o, kS (fun z => by rw [z, hz] at h; cases h) h⟩)
    · exact .inr h
  refine ⟨hz, ⟨?_, fun x o e hx => ?_, fun x e => ?_, mu, fun x od' u e => ?_⟩, ?_, fun mg v w q => ?_⟩
  · obtain ⟨l, e, hl⟩ := pre
    exact ⟨l, e, fun x hx => nt (hl x hx)⟩
  · have hxa : x ≠ a := fun z => hx (z ▸ hm)
    rcases E.keep x o (by rw [upd_ne hxa]; exact e) hx with q | q
    · exact .inl (kS hxa q)
    · exact .inr q
  · by_cases hxa : x = a
    · subst hxa; rw [upd_same] at e; cases e
    · rw [upd_ne hxa] at e; exact nt (E.dom x e)
  · have hxa : x ≠ a := fun z => by rw [z, h0] at e; cases e
    exact kS hxa (E.lock x od' u (by rw [upd_ne hxa]; exact e))
  · unfold unzAt at hu
    split at hu
    · rename_i kvs hk
      cases hu
      obtain ⟨ps', od', g1, g2⟩ := s.ob n a _ hr' hk
      rw [hz] at g1
      have ho : HoD wd.w a ps = HoD wd.w a ps' := by
        have := Option.some.inj g1
        injection this
      obtain ⟨hlt, hget⟩ := List.getElem?_eq_some_iff.mp hr'
      refine ⟨s.nd, by simp [s.len], fun i b y e1 e2 => ?_, fun b hb => ?_, s.apart⟩
      · by_cases hi : i = n
        · subst hi
          rw [hr'] at e1; cases e1
          rw [List.getElem?_set_self (by rw [← s.len]; exact hlt)] at e2
          cases e2
          exact ⟨ps', by rw [upd_same, ho], RpKV.map sf stt g2⟩
        · rw [List.getElem?_set_ne (Ne.symm hi)] at e2
          have hb : b ≠ a := fun z => by
            subst z
            obtain ⟨hlt2, hget2⟩ := List.getElem?_eq_some_iff.mp e1
            exact hi ((List.getElem_inj s.nd).mp (hget2.trans hget.symm))
          exact (s.ob i b y e1 e2).map (fun u q => kS hb q) sf stt fun _ _ q => q
      · rw [upd_ne (fun (z : b = a) => s.apart b hb (z ▸ hm'))]; exact s.hid b hb
    · cases hu
  · cases w with
    | d x => exact Rp.map sf stt q
    | m k => exact q
    | f x => exact q
    | r lo hi => obtain ⟨b, hb, e⟩ := q; exact ⟨b, kS (fun z => by rw [z, hz] at hb; cases hb) hb, e⟩
    | p x y => exact Rv.map sf stt (fun _ _ h => h) (show Rv K r' H' v (.p x y) from q)
theorem qs_lock (i : Nat) (hl : c.lam = false) (h : QS X c W st f) : QS X c W st (sLock i f) := by
  refine ps_weak (ps_lock h) fun D σ H ⟨r, ev, S, x, fl, ev', S', e, hq⟩ => ?_
  unfold sLock at e
  split at e
  · rename_i n hev
    obtain ⟨v, hv, a, hr, rfl⟩ := x.ev i _ hev
    cases hz : zAt n S with
    | none => rw [hz] at e; cases e
    | some S1 =>
      rw [hz] at e
      dsimp only at e
      obtain ⟨ps, h0, hod⟩ := x.sto.z hr hz
      refine ⟨a, _, h0, True.intro, fun od => ?_⟩
      obtain ⟨E, s1⟩ := hod od
      have x1 : Rel X c r σ (upd H a (.frz od (HoD X.w a ps))) ev S1 := x.ext E.up s1 (tabs_ext E x.tabs)
      refine ⟨r, ev, S1, x1, ?_⟩
      cases ef : f ev S1 with
      | none => rw [ef] at e; cases e
      | some p =>
        obtain ⟨g, ev2, S2⟩ := p
        rw [ef] at e
        refine ⟨g, ev2, S2, rfl, ?_⟩
        cases g with
        | nx =>
          cases hu : unzAt n S2 with
          | none => simp only [hu] at e; cases e
          | some S3 =>
            simp only [hu] at e
            cases e
            intro r' σ' H' E' x'
            obtain ⟨k1, k2, k3, k4⟩ := unlock (wd := wg X) (K := X.K) hr h0 x.sto.mu (by rw [hl] at E'; exact E') x'.sto hu
            refine ⟨k1, hq r' σ' _ k2.up ⟨k3, tabs_ext k2 x.tabs, fun j w ej => ?_, x'.len⟩⟩
            obtain ⟨v, hv, q⟩ := x'.ev j w ej
            exact ⟨v, hv, k4 X.mg v w q⟩
        | rt w =>
          cases hu : unzAt n S2 with
          | none => simp only [hu] at e; cases e
          | some S3 =>
            simp only [hu] at e
            cases e
            intro r' v H' E' s' t' q'
            obtain ⟨k1, k2, k3, k4⟩ := unlock (wd := wg X) (K := X.K) hr h0 x.sto.mu (by rw [hl] at E'; exact E') s' hu
            exact ⟨k1, hq r' v _ k2.up k3 (tabs_ext k2 x.tabs) (k4 X.mg v w q')⟩
        | bk => cases e
        | ct => cases e
        | ex y => cases e
  · cases e
end
end DD
/-! part EH -/
set_option Elab.async false
set_option linter.all false
set_option maxRecDepth 100000
set_option maxHeartbeats 4000000
namespace DD
open PySem PySem.Spec PyProof.Rows L2 LamX

/-! ### {k: v for x in ..} -/
section
variable {X : Cx} {pins : List (Addr × Obj)} {σ : L2.St} {r : Lv} {H : Hp} {s : Shared} {a : Addr} {ps : List (NestedKey × Addr × V)} {qs : List (NK × PyData)} {x : V} {u : Value} {k : NK} {A : Around} {E : Value → Shared → Prop}
theorem kd_dset (hu : A.units + 64 < cLine) {Q : Unit → Shared → Prop} {v : V} {z : Value} (I : Inv X pins σ H s) (c : KeyAt X r H x a ps qs k) (ru : RelV x u) (rz : RelV v z) (hw : H a = some (HoD X.w a ps)) (hl : ps.length < sizeLine)
    (h : ∀ b s', (∀ ks, k = .tup ks → Rp X.K r H (.ref b) k.data ∧ k.toN.depth ≤ 8) → Inv X pins σ (upd H a (HoD X.w a (putVV ps k.toN b v))) s' → Q () s') : wpAny (model X.prog X.w) A (dictSet a u z) Q E s := by
  have len : ∀ b, (putVV ps k.toN b v).length ≤ sizeLine := fun b => by
    unfold putVV
    split
    · rw [List.length_map]; omega
    · rw [List.length_append]; exact Nat.succ_le_of_lt hl
  have wr : ∀ {h' : Heap} {t' : Nat} {b : Addr}, Heap.SameBut a s.heap h' → DForm X.w a (putVV ps k.toN b v) h' → Inv X pins σ (upd H a (HoD X.w a (putVV ps k.toN b v))) { s with heap := h', toks := t' } := fun {h' t' b} hs df => by
    obtain ⟨o, _, _, e, _⟩ := df.obj
    exact d_write I (by rw [hw]; exact True.intro) hs ⟨o, e⟩ (hoD_ok df)
  rcases c.cases I ru with ⟨j, vs, e, hk, kv, dd⟩ | ⟨b, ks, xs, e1, e2, e3, q, hk, kt, dd⟩
  · have hz : vs.length ≤ sizeLine := by rw [← Paired.length kv]; omega
    refine wpAny_dictSet_pairs hk (dd X.prog) (fun h' dd' hs => h 0 _ (fun ks ek => ?_) (wr hs ⟨len 0, c.sys I, .inl ⟨stored vs j z, ?_, fun P => dictOf_P dd'⟩⟩)) hz
    · rw [ek] at e; exact absurd e.symm nkeyV_tup
    · rw [e]; exact kv.put j rz
  · subst e2
    have hz : xs.length ≤ sizeLine := by rw [← Paired.length kt]; omega
    refine wpAny_dictSet_heap (show A.units + 8 < cLine by omega) hk dd (fun h' dd' hs => h b _ (fun ks ek => ⟨q, c.depth⟩) (wr hs ⟨len b, c.sys I, .inr ⟨?_, storedH xs k.toN b z, kt.put k.toN rz, ?_⟩⟩)) hz
    · have ft := c.kv.flav_t c.fl
      have e9 : k.isTup = true := by rw [e3]; rfl
      have all : ∀ p ∈ putVV ps k.toN b v, isTupK p.1 = true := fun p hp => by
        unfold putVV at hp
        split at hp
        · obtain ⟨p0, hp0, rfl⟩ := List.mem_map.mp hp
          split
          · rename_i e0
            show isTupK p0.1 = true
            rw [e0, isTup_toN]; exact e9
          · rw [ft p0 hp0]; exact e9
        · rcases List.mem_append.mp hp with hp | hp
          · rw [ft p hp]; exact e9
          · have : p = (k.toN, b, v) := by simpa using hp
            rw [this]; exact (isTup_toN k).trans e9
      intro p hp
      have this := all p hp
      cases hq : p.1 with
      | tup ks => exact ⟨ks, rfl⟩
      | none => rw [hq] at this; cases this
      | num _ => rw [hq] at this; cases this
      | text _ => rw [hq] at this; cases this
    · obtain ⟨o, es, ep, g1, g2, g3, g4, _, g5⟩ := dd'
      exact ⟨o, es, ep, g1, g2, g3, g4, g5⟩
end
def tDcK (X : Cx) (wi : TI) (g : TG) (tt : TT) (tk tv : TE) (vs : List Nat) : TE := fun σ H Q => wi σ H fun J H1 => ∀ D, H1 D = none → ∃ W : Nat → Nat → Hp → Prop, (∃ m, W 0 m (upd H1 D (HoD X.w D []))) ∧ ∀ i m H, W i m H →
  (J.stop i H ∧ Q (.ref D) H) ∨ (J.go i H ∧ ∃ Nx : Hp → Prop, (∀ H', Nx H' → ∃ m', m' < m ∧ W (i + 1) m' H') ∧ ∀ x H', J.yld i H x H' → g x (L2.wipe σ vs) H' fun σ2 H2 => L2.wipe σ2 vs = L2.wipe σ vs ∧ tt σ2 H2 fun b H3 =>
    if b = true then tk σ2 H3 fun y H4 => tv σ2 H4 fun z H5 => ∃ r ps kvs k, KeyAt X r H5 y D ps kvs k ∧ H5 D = some (HoD X.w D ps) ∧ ps.length < sizeLine ∧ ∀ b', (∀ ks, k = .tup ks → Rp X.K r H5 (.ref b') k.data ∧ k.toN.depth ≤ 8) → Nx (upd H5 D (HoD X.w D (putVV ps k.toN b' z))) else Nx H3)
section
variable {X : Cx} {kx vx : Expr} {scope : Scope} {pos : Pos}
theorem dcK_core {pins : List (Addr × Obj)} {s : Shared} {σ : L2.St} {H : Hp} {Q : VK} {tg iter : Expr} {ifs : List Expr} {own : List (Str × Nat)} {pos' : Pos} {wi : TI} {g : TG} {tt : TT} {tk tv : TE} {use : Option (Value → Sem Unit)} {Qf : Value → Shared → Prop}
    (hu : X.A.units + 64 < cLine) (hc : X.calm = true) (hN : X.N.Nodup) (I : Inv X pins σ H s) (hi : PI X tg iter wi) (ok : BlkOk X.N X.env.scope scope own)
    (hg : ∀ (s : Shared) (H : Hp) (C : Addr) (cl : List (Str × Addr)) (fp : List Addr), PG (X.blk s H scope (compEnvC scope cl C X.env) fp) tg g) (ht : ∀ (s : Shared) (H : Hp) (C : Addr) (cl : List (Str × Addr)) (fp : List Addr), PTs (X.blk s H scope (compEnvC scope cl C X.env) fp) ifs tt)
    (hk : ∀ (s : Shared) (H : Hp) (C : Addr) (cl : List (Str × Addr)) (fp : List Addr), PE (X.blk s H scope (compEnvC scope cl C X.env) fp) kx tk) (he : ∀ (s : Shared) (H : Hp) (C : Addr) (cl : List (Str × Addr)) (fp : List Addr), PE (X.blk s H scope (compEnvC scope cl C X.env) fp) vx tv) (hs : ∀ x, foldedSetIterable iter X.env x = pure x)
    (h : tDcK X wi g tt tk tv (own.map (·.2)) σ H Q)
    (hRR : ∀ D C s' m H', Inv X pins σ H' s' → Q (.ref D) H' → s'.heap.Ns C m → FpOk X pins H' C → compPost (model X.prog X.w) X.A X.xe use Qf (.ref D) C (.ok .next) s') :
    wpAny (model X.prog X.w) X.A (comprehension (.DictComp kx vx [⟨tg, iter, ifs, 0⟩] scope pos) scope X.env pos' newDict false (eval iter X.env) use) Qf X.xe s := by
  have cells : ∀ y ∈ scope.names, y.2 = .free → ∃ c, X.env.cells.lookup y.1 = some c := fun y hy e => (ok.free y hy e).elim (fun k => I.ok.has _ (.inl k)) fun k => I.ok.has _ (.inr k)
  refine wpAny_comprehension_free (use := use) rfl hs (closure_ok cells) ok.kind (fun y hy e => by rw [ok.uniq y hy, e]) (thn (hi.run pins s σ H _ I h) fun xv sa hx => thn hx fun itv sb hy => ?_)
  obtain ⟨it, fp, tn, J, Hb, e, Ib, T, stb, fb, q⟩ := hy
  subst e
  refine wpAny_newObj_type (newEnv_comp ?_)
  have hDn : Hb sb.heap.objs.size = none := Ib.hok.fresh (Nat.le_refl _)
  obtain ⟨W, ⟨m0, w0⟩, turn⟩ := q _ hDn
  have ap : ∀ b ∈ fp, b < sb.heap.objs.size := fun b hb => by
    obtain ⟨o, e, _⟩ := T.obj _ _ stb b hb
    exact Heap.lt_size e
  obtain ⟨sc, hsc⟩ : ∃ sc : Shared, sc = { sb with heap := sb.heap.push { cls := .type "dict", data := .dict #[] } } := ⟨_, rfl⟩
  have Ic : Inv X pins σ (upd Hb sb.heap.objs.size (HoD X.w sb.heap.objs.size [])) sc := by
    rw [hsc]
    exact Ib.laid (t' := sb.toks) (fun b o e => Heap.get?_push_of_some _ e) (Nat.le_refl _) (hoD_ok (dform_empty (P := X.prog) Ib.big))
  have stc : tn 0 sc.heap := T.keep _ _ _ stb fun b _ o e => by rw [hsc]; exact Heap.get?_push_of_some _ e
  have fc : ∀ b ∈ fp, FpOk X pins (upd Hb sb.heap.objs.size (HoD X.w sb.heap.objs.size [])) b ∧ b < sc.heap.objs.size := fun b hb => by
    refine ⟨⟨?_, (fb b hb).2⟩, by rw [hsc]; show b < (sb.heap.push _).objs.size; rw [Heap.size_push]; exact Nat.lt_succ_of_lt (ap b hb)⟩
    rw [upd_ne (Nat.ne_of_lt (ap b hb))]
    exact (fb b hb).1
  rw [← hsc]
  generalize sb.heap.objs.size = D at w0 turn Ic fc ⊢
  generalize (upd Hb D (HoD X.w D []) : Hp) = Hc at w0 Ic fc
  have Id := block_start Ic ok hN fc
  -- the block's own context
  have pg := hg sc Hc sc.heap.objs.size (cellsFrom (sc.heap.objs.size + 1) scope.names (cloFrom X.env.cells scope.names [])) fp
  have pt := ht sc Hc sc.heap.objs.size (cellsFrom (sc.heap.objs.size + 1) scope.names (cloFrom X.env.cells scope.names [])) fp
  have pk := hk sc Hc sc.heap.objs.size (cellsFrom (sc.heap.objs.size + 1) scope.names (cloFrom X.env.cells scope.names [])) fp
  have pe := he sc Hc sc.heap.objs.size (cellsFrom (sc.heap.objs.size + 1) scope.names (cloFrom X.env.cells scope.names [])) fp
  obtain ⟨sd, hsd⟩ : ∃ sd : Shared, sd = { sc with heap := pushCells (sc.heap.push { cls := .type "dict", data := .dict #[] }) scope.names } := ⟨_, rfl⟩
  have std : tn 0 sd.heap := T.keep _ _ _ stc fun b _ o e => by rw [hsd]; exact pushCells_keeps _ _ _ _ (Heap.get?_push_of_some _ e)
  rw [← hsd] at Id
  show codeAny _ _ (.compStart (.DictComp kx vx [⟨tg, iter, ifs, 0⟩] scope pos) 0 (.ref it) (.ref D) (compEnvC scope (cellsFrom (sc.heap.objs.size + 1) scope.names (cloFrom X.env.cells scope.names [])) sc.heap.objs.size X.env)) (compPost (model X.prog X.w) X.A X.xe use Qf (.ref D) sc.heap.objs.size) { sc with heap := pushCells (sc.heap.push { cls := .type "dict", data := .dict #[] }) scope.names }
  rw [← hsd]
  obtain ⟨ce, hce⟩ : ∃ ce : Env, ce = compEnvC scope (cellsFrom (sc.heap.objs.size + 1) scope.names (cloFrom X.env.cells scope.names [])) sc.heap.objs.size X.env := ⟨_, rfl⟩
  have cL : ce.locals = sc.heap.objs.size := by rw [hce]; rfl
  rw [← hce] at Id pg pt pk pe ⊢
  have stat : ∀ {σ' : L2.St} {H' : Hp} {s' : Shared}, Inv (X.blk sc Hc scope ce fp) [] σ' H' s' → (∀ b ∈ fp, H' b = none) → ∀ b ∈ fp, FpOk (X.blk sc Hc scope ce fp) [] H' b := fun {σ' H' s'} I' hn b hb =>
    ⟨hn b hb, (I'.ok.exf b hb).1, I'.ok.exfs b hb, .inl hb, fun x c e => (I'.ok.exf b hb).2 x c e, fun p hp => absurd (show p ∈ ([] : List (Addr × Obj)) ++ [] from hp) (by simp)⟩
  have loop : codeAny (model X.prog X.w) X.A (.compLoop (.DictComp kx vx [⟨tg, iter, ifs, 0⟩] scope pos) 0 (.ref it) (.ref D) ce) (compPost (model X.prog X.w) X.A X.xe use Qf (.ref D) sc.heap.objs.size) sd := by
    refine compLoop_anyD (fun n s' => ∃ i H', Inv (X.blk sc Hc scope ce fp) [] (L2.wipe σ (own.map (·.2))) H' s' ∧ tn i s'.heap ∧ (∀ b ∈ fp, H' b = none) ∧ W i n H') ?_ m0 ⟨0, Hc, Id, std, fun b hb => (fc b hb).1.1, w0⟩
    rintro n s5 ⟨i, H5, I5, st5, n5, w5⟩
    rcases turn i n H5 w5 with ⟨stop, qq⟩ | ⟨go, Nx, hNx, step⟩
    · refine thnF (T.done (X.blk sc Hc scope ce fp) rfl rfl rfl hc i [] s5 _ H5 (fun _ _ => False) I5 (stat I5 n5) st5 stop) fun r s6 ⟨hr, I6⟩ => ?_
      subst hr
      have Ie : Inv X pins σ H5 s6 := Ic.call' (ch := fp) I6.os I6.base I6.hok I6.bare fun b hb => ⟨(fc b hb).1.2.2.2.1, (fc b hb).1.2.1, (fc b hb).1.2.2.2.2.1, (fc b hb).1.2.2.2.2.2⟩
      have nC : H5 ce.locals = none := I6.free
      rw [cL] at nC
      obtain ⟨m, hn, _⟩ := I6.loc
      have hn : s6.heap.Ns ce.locals m := hn
      rw [cL] at hn
      exact hRR D sc.heap.objs.size s6 m H5 Ie qq hn (Ic.fpOk (Nat.le_refl _) nC)
    · refine thnF (T.item (X.blk sc Hc scope ce fp) rfl rfl rfl hc i [] s5 _ H5 (fun _ _ => False) I5 (stat I5 n5) st5 go) fun r s6 ⟨u, hr, h6⟩ => ?_
      subst hr
      refine thnF h6 fun _ s7 ⟨x, H7, I7, r7, y7, st7, n7⟩ => ?_
      have Ip := I7.pinned (stat I7 n7) (T.obj _ _ st7)
      refine thnF (pg.run _ s7 _ H7 x u _ Ip r7 (step x H7 y7)) fun _ s8 ⟨σ8, H8, I8, hw8, q8⟩ => ?_
      refine thnF (pt.run _ s8 σ8 H8 _ I8 q8) fun b s9 ⟨H9, I9, q9⟩ => ?_
      have back : ∀ {s' : Shared} {H' : Hp}, Inv (X.blk sc Hc scope ce fp) ([] ++ pinsAt fp s7.heap) σ8 H' s' → Nx H' → ∃ m, m < n ∧ ∃ i H', Inv (X.blk sc Hc scope ce fp) [] (L2.wipe σ (own.map (·.2))) H' s' ∧ tn i s'.heap ∧ (∀ b ∈ fp, H' b = none) ∧ W i m H' := fun {s' H'} I' nx => by
        obtain ⟨m', hm, w'⟩ := hNx H' nx
        have pin' : ∀ b ∈ fp, ∀ o, s7.heap.get? b = some o → s'.heap.get? b = some o ∧ H' b = none := fun b hb o e =>
          let z := I'.pin (b, o) (List.mem_append_right _ (List.mem_append_right _ (mem_pinsAt hb e)))
          ⟨z.1, z.2.1⟩
        have hl : (L2.wipe σ (own.map (·.2))).length = σ8.length := by rw [← hw8, wipe_length]
        refine ⟨m', hm, i + 1, H', (I'.unpinned (pins := [])).weak hl (fun j v e => ?_), T.keep _ _ _ st7 fun b hb o e => (pin' b hb o e).1, fun b hb => ?_, w'⟩
        · rw [← hw8] at e
          exact (wipe_some e).1
        · obtain ⟨o, e, _⟩ := T.obj _ _ st7 b hb
          exact (pin' b hb o e).2
      cases b with
      | false =>
        simp only [Bool.false_eq_true, if_false] at q9 ⊢
        exact back I9 q9
      | true =>
        simp only [if_true] at q9 ⊢
        refine thnF (pk.run _ s9 σ8 H9 _ I9 q9) fun z s10 ⟨yk, H10, I10, r10, q10⟩ => ?_
        refine thnF (pe.run _ s10 σ8 H10 _ I10 q10) fun z2 s11 ⟨yv, H11, I11, r11, rr, ps, kvs, k, ka, hw, hz, nx⟩ => ?_
        exact kd_dset (X := X.blk sc Hc scope ce fp) hu I11 (⟨ka.at_, ka.kv, ka.key, ka.nb, ka.depth, ka.fl⟩ : KeyAt (X.blk sc Hc scope ce fp) rr H11 yk D ps kvs k) r10 r11 hw hz fun b' s12 hb' I12 => back I12 (nx b' hb')
  exact codeAny_compStart_dict loop (T.self X.A 0 _ _ _ std loop)
theorem pe_dcK {tg iter : Expr} {ifs : List Expr} {own : List (Str × Nat)} {wi : TI} {g : TG} {tt : TT} {tk tv : TE} (hu : X.A.units + 64 < cLine) (hc : X.calm = true) (hN : X.N.Nodup) (hi : PI X tg iter wi) (ok : BlkOk X.N X.env.scope scope own)
    (hg : ∀ (s : Shared) (H : Hp) (C : Addr) (cl : List (Str × Addr)) (fp : List Addr), PG (X.blk s H scope (compEnvC scope cl C X.env) fp) tg g) (ht : ∀ (s : Shared) (H : Hp) (C : Addr) (cl : List (Str × Addr)) (fp : List Addr), PTs (X.blk s H scope (compEnvC scope cl C X.env) fp) ifs tt)
    (hk : ∀ (s : Shared) (H : Hp) (C : Addr) (cl : List (Str × Addr)) (fp : List Addr), PE (X.blk s H scope (compEnvC scope cl C X.env) fp) kx tk) (he : ∀ (s : Shared) (H : Hp) (C : Addr) (cl : List (Str × Addr)) (fp : List Addr), PE (X.blk s H scope (compEnvC scope cl C X.env) fp) vx tv) (hs : ∀ x, foldedSetIterable iter X.env x = pure x := by intro _; rfl) :
    PE X (.DictComp kx vx [⟨tg, iter, ifs, 0⟩] scope pos) (tDcK X wi g tt tk tv (own.map (·.2))) := by
  refine ⟨fun pins s σ H Q I h => ?_⟩
  rw [arm_eval_DictComp]
  exact dcK_core hu hc hN I hi ok hg ht hk he hs h fun D C s' m H' I' q hn f => ⟨m, hn, fun h'' sb => ⟨.ref D, H', I'.turned (t' := s'.toks) (fun b o hb e => (sb.2 b hb).trans e) f.1 f.2.1 f.2.2.2.1 f.2.2.2.2.1 f.2.2.2.2.2, rfl, q⟩⟩
end

/-! ### its reading -/
def compD (ρ : Rdr) (g : Vl → Ev → Option Ev) (t : Ev → M Bool) (ek ee : Ev → M Vl) (ev : Ev) (n : Nat) : Nat → Nat → Sto → Option Sto
  | 0, _, _ => none
  | m + 1, i, S => match ρ S i with
    | none => none
    | some none => some S
    | some (some d) => match g d ev with
      | none => none
      | some ev1 => match t ev1 S with
        | some (.ok true, S1) => match ek ev1 S1 with
          | some (.ok kw, S2) => match ee ev1 S2 with
            | some (.ok vw, S3) => match S3[n]? with
              | some (.k acc) => match keyFor acc kw, datOf vw with
                | some k, some z => if acc.length < 1000000 then compD ρ g t ek ee ev n m (i + 1) (S3.set n (.k (putKV acc k z))) else none
                | _, _ => none
              | _ => none
            | _ => none
          | _ => none
        | some (.ok false, S1) => compD ρ g t ek ee ev n m (i + 1) S1
        | _ => none
def fCompD (m : Nat) (fi : Ev → M Rdr) (g : Vl → Ev → Option Ev) (t : Ev → M Bool) (ek ee : Ev → M Vl) (own : List Nat) : Ev → M Vl := fun ev => do
  let ρ ← fi ev
  fun S => match compD ρ g t ek ee (wipeE ev own) S.length m 0 (S ++ [.k []]) with
    | some S' => some (.ok (.m S.length), S')
    | none => none
section
variable {X : Cx} {c : Cf} {W : WX} {pos : Pos}
theorem compD_weak {m : Nat} {fi : Ev → M Rdr} {g : Vl → Ev → Option Ev} {t : Ev → M Bool} {ek ee : Ev → M Vl} {own is : List Nat} {σ : L2.St} {H : Hp} (hi : ∀ i ∈ is, i ∈ own) {Q : VK} (h : tE X c W (fCompD m fi g t ek ee own) σ H Q) :
    tDcK X (tX X c W (RIM (wg X) X.K X.mg) fi) (tG X c g is) (tT X c W0 t) (tE X c W0 ek) (tE X c W0 ee) own σ H Q := by
  obtain ⟨r, ev, S, x, h⟩ := h
  refine tX.of x h.bind fun J H1 ⟨r1, S1, ρ, e1, s1, t1, ⟨F, Y, z1⟩, h1⟩ D hD => ?_
  have x1 := x.ext e1 s1 t1
  obtain ⟨o, So, eo, hq⟩ := h1
  dsimp only at eo
  cases ec : compD ρ g t ek ee (wipeE ev own) S1.length m 0 (S1 ++ [.k []]) with
  | none => rw [ec] at eo; cases eo
  | some Se =>
    rw [ec] at eo
    cases eo
    have E0 : Ext false r1 ⟨r1.st ++ [D], r1.hid⟩ H1 (upd H1 D (HoD X.w D [])) := Ext.newL s1.mu hD
    have sto0 : StoRel (wg X) X.K ⟨r1.st ++ [D], r1.hid⟩ (upd H1 D (HoD X.w D [])) (S1 ++ [.k []]) := s1.newO hD fun r' H' E e => ⟨[], e, .nil⟩
    have at0 : (⟨r1.st ++ [D], r1.hid⟩ : Lv).st[S1.length]? = some D := by
      show (r1.st ++ [D])[S1.length]? = some D
      rw [← s1.len, List.getElem?_append_right (Nat.le_refl _)]; simp
    refine ⟨fun i k H => ∃ r S, Ext c.lam r1 r H1 H ∧ StoRel (wg X) X.K r H S ∧ Tabs c.T H ∧ F r H ∧ EvR X.K X.mg r (L2.wipe σ own) H (wipeE ev own) ∧ r.st[S1.length]? = some D ∧ compD ρ g t ek ee (wipeE ev own) S1.length k i S = some So,
      ⟨m, _, _, E0.up, sto0, tabs_ext E0 t1, Y.ext _ _ _ _ _ z1 E0, ((x1.ev.wipe own)).ext E0, at0, ec⟩, ?_⟩
    rintro i k H2 ⟨r, S, e2, st2, tb2, f2, v2, at2, c2⟩
    cases k with
    | zero => cases c2
    | succ k =>
      cases ed : ρ S i with
      | none => simp only [compD, ed] at c2; cases c2
      | some od =>
        cases od with
        | none =>
          simp only [compD, ed] at c2
          cases c2
          exact .inl ⟨Y.stop _ _ _ _ f2 st2 ed, hq r (.ref D) H2 e2 st2 tb2 ⟨D, at2, rfl⟩⟩
        | some d =>
          refine .inr ⟨Y.go _ _ _ _ _ f2 st2 ed, fun H' => ∃ r S, Ext c.lam r1 r H1 H' ∧ StoRel (wg X) X.K r H' S ∧ Tabs c.T H' ∧ F r H' ∧ EvR X.K X.mg r (L2.wipe σ own) H' (wipeE ev own) ∧ r.st[S1.length]? = some D ∧ compD ρ g t ek ee (wipeE ev own) S1.length k (i + 1) S = some So, fun H' q => ⟨k, by omega, q⟩, fun v H' y => ?_⟩
          obtain ⟨E, s', q⟩ := Y.yld _ _ _ _ _ _ _ f2 st2 ed y
          have e3 := e2.trans E.up
          have tb3 := tabs_ext E tb2
          simp only [compD, ed] at c2
          have xb : Rel X c r (L2.wipe σ own) H' (wipeE ev own) S := ⟨s', tb3, v2.ext E, by rw [wipe_length]; exact x.len⟩
          split at c2
          · cases c2
          · rename_i ev1 eg
            refine ⟨r, wipeE ev own, S, d, ev1, xb, q, eg, fun σ2 x2 sb => ⟨?_, ?_⟩⟩
            · rw [wipe_eq sb hi, wipe_wipe]
            · split at c2
              · rename_i S2 et
                refine ⟨r, ev1, S, x2, .ok true, S2, et, fun r3 b H3 E3 s3 t3 q3 => ?_⟩
                cases q3
                rw [if_pos rfl]
                have x3 := x2.ext E3 s3 t3
                split at c2
                · rename_i kw S4 ek4
                  refine ⟨r3, ev1, S2, x3, .ok kw, S4, ek4, fun r4 yk H4 E4 s4 t4 q4 => ?_⟩
                  have x4 := x3.ext E4 s4 t4
                  split at c2
                  · rename_i vw S5 ee5
                    refine ⟨r4, ev1, S4, x4, .ok vw, S5, ee5, fun r5 yv H5 E5 s5 t5 q5 => ?_⟩
                    have at5 : r5.st[S1.length]? = some D := E5.stk _ _ (E4.stk _ _ (E3.stk _ _ at2))
                    have f5 : F r5 H5 := Y.ext _ _ _ _ _ (Y.ext _ _ _ _ _ (Y.ext _ _ _ _ _ (Y.ext _ _ _ _ _ f2 E) E3) E4) E5
                    have v5 : EvR X.K X.mg r5 (L2.wipe σ own) H5 (wipeE ev own) := (((v2.ext E).ext E3).ext E4).ext E5
                    have e5 : Ext c.lam r1 r5 H1 H5 := ((e3.trans E3).trans E4).trans E5
                    split at c2
                    · rename_i acc ha
                      split at c2
                      · rename_i kk zz hk hz
                        split at c2
                        · rename_i hlen
                          obtain ⟨ps, g1, g2⟩ := s5.ob _ _ _ at5 ha
                          have ka := keyFor_at (K := X.K) hk (q4.ext E5) (.inl g1) g2
                          refine ⟨r5, ps, acc, kk, ka, g1, by rw [RpKV.length g2, sizeLine_eq]; omega, fun b' hb' => ?_⟩
                          have Ep : Ext false r5 r5 H5 (upd H5 D (HoD X.w D (putVV ps kk.toN b' yv))) := Ext.put s5.mu (List.mem_of_getElem? at5) (nofE g1)
                          have stp := s5.putO (o := HoD X.w D (putVV ps kk.toN b' yv)) (m := .k (putKV acc kk zz)) at5 (nofE g1) fun H' E' e' => ⟨_, e', RpKV.map (fun _ _ q => E'.sqf q) (fun _ _ q => E'.sqt q) (g2.put ka.nb hb' (datOf_ok q5 hz))⟩
                          exact ⟨r5, _, e5.trans Ep.up, stp, tabs_ext Ep t5, Y.ext _ _ _ _ _ f5 Ep, v5.ext Ep, at5, c2⟩
                        · cases c2
                      · cases c2
                    · cases c2
                  · cases c2
                · cases c2
              · rename_i S2 et
                refine ⟨r, ev1, S, x2, .ok false, S2, et, fun r3 b H3 E3 s3 t3 q3 => ?_⟩
                cases q3
                rw [if_neg (by decide)]
                exact ⟨r3, S2, e3.trans E3, s3, t3, Y.ext _ _ _ _ _ (Y.ext _ _ _ _ _ f2 E) E3, (v2.ext E).ext E3, E3.stk _ _ at2, c2⟩
              · cases c2
theorem qe_compD (m : Nat) {kx vx tg it : Expr} {ifs : List Expr} {scope : Scope} {own : List (Str × Nat)} {fi : Ev → M Rdr} {g : Vl → Ev → Option Ev} {t : Ev → M Bool} {ek ee : Ev → M Vl} {is : List Nat} (hu : X.A.units + 64 < cLine) (hc : X.calm = true) (hN : X.N.Nodup) (hi : QIM X c W tg it fi) (ok : BlkOk X.N X.env.scope scope own)
    (hg : ∀ (s : Shared) (H : Hp) (C : Addr) (cl : List (Str × Addr)) (fp : List Addr), QG (X.blk s H scope (compEnvC scope cl C X.env) fp) c tg g is) (ht : ∀ (s : Shared) (H : Hp) (C : Addr) (cl : List (Str × Addr)) (fp : List Addr), QTs (X.blk s H scope (compEnvC scope cl C X.env) fp) c W0 ifs t)
    (hk : ∀ (s : Shared) (H : Hp) (C : Addr) (cl : List (Str × Addr)) (fp : List Addr), QE (X.blk s H scope (compEnvC scope cl C X.env) fp) c W0 kx ek) (he : ∀ (s : Shared) (H : Hp) (C : Addr) (cl : List (Str × Addr)) (fp : List Addr), QE (X.blk s H scope (compEnvC scope cl C X.env) fp) c W0 vx ee)
    (his : ∀ i ∈ is, i ∈ own.map (·.2) := by decide) (hs : ∀ x, foldedSetIterable it X.env x = pure x := by intro _; rfl) :
    QE X c W (.DictComp kx vx [⟨tg, it, ifs, 0⟩] scope pos) (fCompD m fi g t ek ee (own.map (·.2))) := by
  refine pe_weak (pe_dcK (wi := tX X c W (RIM (wg X) X.K X.mg) fi) (g := tG X c g is) (tt := tT X c W0 t) (tk := tE X c W0 ek) (tv := tE X c W0 ee) hu hc hN hi ok (fun s H C cl fp => pg_blk (hg s H C cl fp)) (fun s H C cl fp => pts_blk (ht s H C cl fp)) (fun s H C cl fp => pe_blk (hk s H C cl fp)) (fun s H C cl fp => pe_blk (he s H C cl fp)) hs) fun σ H Q h => ?_
  exact compD_weak his h
/-- a list of data walked, as a reader -/
def fRdr (f : Ev → M (List PyData)) : Ev → M Rdr := fun ev => do
  let ds ← f ev
  pure (datR ds)
theorem qim_of {tg it : Expr} {f : Ev → M (List PyData)} (h : QI X c W tg it f) : QIM X c W tg it (fRdr f) := pi_weak h fun σ H R ⟨r, ev, S, x, hh⟩ =>
  tX.of x hh.bind fun J H1 ⟨r1, S1, ds, e1, s1, t1, ⟨F, Y, z⟩, h1⟩ => h1.pure rfl s1 t1 ⟨F, .ofData Y, z⟩
end
end DD
/-! part EI -/
set_option Elab.async false
set_option linter.all false
set_option maxRecDepth 100000
set_option maxHeartbeats 4000000
namespace DD
open PySem PySem.Spec PyProof.Rows L2 LamX

/-! ### zip of three tuples -/
def Itz3 (K : PySem.W.Frag) (a b c : Addr) : It :=
  ⟨fun i H => ∃ (xs ys zs : List V) (x y z : V), SqT K H a xs ∧ SqT K H b ys ∧ SqT K H c zs ∧ xs[i]? = some x ∧ ys[i]? = some y ∧ zs[i]? = some z,
    fun i H v H' => ∃ T x y z, v = .ref T ∧ H T = none ∧ H' = upd H T (.tup [x, y, z]) ∧ (∀ xs, SqT K H a xs → xs[i]? = some x) ∧ (∀ ys, SqT K H b ys → ys[i]? = some y) ∧ ∀ zs, SqT K H c zs → zs[i]? = some z,
    fun i H => ∃ xs ys zs : List V, SqT K H a xs ∧ SqT K H b ys ∧ SqT K H c zs ∧ (i ≤ xs.length ∧ i ≤ ys.length ∧ i ≤ zs.length) ∧ (i = xs.length ∨ i = ys.length ∨ i = zs.length)⟩
theorem tup_ne {h : Heap} {a it : Addr} {l : Addr} {i : Nat} {its : Array Value} (hit : h.IsTupleIter it l i) (p : h.IsTuple a its) : a ≠ it := fun e => by
  obtain ⟨o1, q1, c1, _⟩ := hit
  obtain ⟨o2, q2, c2, _⟩ := p
  rw [e, q1] at q2
  cases q2
  rw [c1] at c2
  exact absurd (Value.type.inj c2) (by decide)
theorem zip_ne {h : Heap} {a z TI TO : Addr} {f : Value} {its : Array Value} (hz : IsZip h z TI TO f) (p : h.IsTuple a its) : a ≠ z := fun e => by
  obtain ⟨o2, q2, c2, _⟩ := p
  rw [e] at q2
  have hz' : h.get? z = some _ := hz
  rw [hz'] at q2
  cases q2
  exact absurd (Value.type.inj c2) (by decide)
structure Z3 (z TI TO i1 i2 i3 : Addr) : Prop where
  TIz : TI ≠ z
  TOz : TO ≠ z
  TITO : TI ≠ TO
  TI1 : TI ≠ i1
  TI2 : TI ≠ i2
  TI3 : TI ≠ i3
  TO1 : TO ≠ i1
  TO2 : TO ≠ i2
  TO3 : TO ≠ i3
  z1 : z ≠ i1
  z2 : z ≠ i2
  z3 : z ≠ i3
  i12 : i1 ≠ i2
  i13 : i1 ≠ i3
  i23 : i2 ≠ i3
/-- the tuples walked are none of the walk's own cells -/
structure Off3 (z TI TO i1 i2 i3 a : Addr) : Prop where
  z : a ≠ z
  TO : a ≠ TO
  i1 : a ≠ i1
  i2 : a ≠ i2
  i3 : a ≠ i3
theorem z3_sep {z TI TO i1 i2 i3 a b c : Addr} (D : Z3 z TI TO i1 i2 i3) (A : Off3 z TI TO i1 i2 i3 a) (B : Off3 z TI TO i1 i2 i3 b) (C : Off3 z TI TO i1 i2 i3 c) : ZipSep3 z TI TO i1 i2 i3 [i1, a] [i2, b] [i3, c] := by
  have mk : ∀ {x y w : Addr}, x ≠ y → x ≠ w → x ∉ [y, w] := fun {x y w} h1 h2 hm => by
    rcases List.mem_cons.mp hm with e | e
    · exact h1 e
    · exact h2 (List.mem_singleton.mp e)
  exact { TIz := D.TIz, TOz := D.TOz, TITO := D.TITO, TIi1 := D.TI1, mem1 := (by simp), zf1 := mk D.z1 (Ne.symm A.z), Tf1 := mk D.TO1 (Ne.symm A.TO), TIi2 := D.TI2, mem2 := (by simp), zf2 := mk D.z2 (Ne.symm B.z), Tf2 := mk D.TO2 (Ne.symm B.TO), TIi3 := D.TI3, mem3 := (by simp), zf3 := mk D.z3 (Ne.symm C.z), Tf3 := mk D.TO3 (Ne.symm C.TO), sep1_2 := mk D.i12 (Ne.symm B.i1), sep1_3 := mk D.i13 (Ne.symm C.i1), sep2_1 := mk (Ne.symm D.i12) (Ne.symm A.i2), sep2_3 := mk D.i23 (Ne.symm C.i2), sep3_1 := mk (Ne.symm D.i13) (Ne.symm A.i3), sep3_2 := mk (Ne.symm D.i23) (Ne.symm B.i3) }
theorem turn_zip3 {P : Program} {w : World} {K : PySem.W.Frag} {elts : List Expr} {kk : Nat} {tpos : Pos} {a b c z TI TO i1 i2 i3 : Addr} (D : Z3 z TI TO i1 i2 i3) (aTO : a ≠ TO ∧ b ≠ TO ∧ c ≠ TO) :
    Turn P w K (.Tuple elts kk tpos) (Itz3 K a b c) [z, TI, TO, i1, i2, i3] z (fun i h => IsZip h z TI TO .none ∧ IsTupOf3 h TI (.ref i1) (.ref i2) (.ref i3) ∧ (∃ x y v, IsTupOf3 h TO x y v) ∧ h.IsTupleIter i1 a i ∧ h.IsTupleIter i2 b i ∧ h.IsTupleIter i3 c i) where
  mem := by simp
  obj := fun i h st e he => by
    obtain ⟨hz, hTI, ⟨x, y, v, hTO⟩, ⟨o1, e1, _, d1⟩, ⟨o2, e2, _, d2⟩, ⟨o3, e3, _, d3⟩⟩ := st
    have e' : e = z ∨ e = TI ∨ e = TO ∨ e = i1 ∨ e = i2 ∨ e = i3 := by simpa using he
    rcases e' with q | q | q | q | q | q
    · rw [q]; exact ⟨_, hz, fun v q => nomatch q⟩
    · rw [q]; exact ⟨_, hTI, fun v q => nomatch q⟩
    · rw [q]; exact ⟨_, hTO, fun v q => nomatch q⟩
    · rw [q]; exact ⟨o1, e1, fun v q => by rw [d1] at q; cases q⟩
    · rw [q]; exact ⟨o2, e2, fun v q => by rw [d2] at q; cases q⟩
    · rw [q]; exact ⟨o3, e3, fun v q => by rw [d3] at q; cases q⟩
  keep := fun i h h' st k => by
    obtain ⟨hz, hTI, ⟨x, y, v, hTO⟩, h1, h2, h3⟩ := st
    exact ⟨k z (by simp) _ hz, k TI (by simp) _ hTI, ⟨x, y, v, k TO (by simp) _ hTO⟩, h1.at fun o q => k i1 (by simp) o q, h2.at fun o q => k i2 (by simp) o q, h3.at fun o q => k i3 (by simp) o q⟩
  item := by
    intro X hP hw hK hc i pins s σ H E I hf st hg
    subst hP hw hK
    obtain ⟨hz, hTI, ⟨x0, y0, v0, hTO⟩, h1, h2, h3⟩ := st
    obtain ⟨xs, ys, zs, x, y, v, hqx, hqy, hqz, hx, hy, hv⟩ := hg
    obtain ⟨ix, rx, px, _⟩ := I.tuple hqx
    obtain ⟨iy, ry, py, _⟩ := I.tuple hqy
    obtain ⟨iz, rz, pz, _⟩ := I.tuple hqz
    have off : ∀ {e : Addr} {its : Array Value}, s.heap.IsTuple e its → e ≠ TO → Off3 z TI TO i1 i2 i3 e := fun p ne => ⟨zip_ne hz p, ne, tup_ne h1 p, tup_ne h2 p, tup_ne h3 p⟩
    have pxa : s.heap.IsTuple a ix.toArray := px
    have pyb : s.heap.IsTuple b iy.toArray := py
    have pzc : s.heap.IsTuple c iz.toArray := pz
    have Oa := off pxa aTO.1
    have Ob := off pyb aTO.2.1
    have Oc := off pzc aTO.2.2
    obtain ⟨u1, hu1, ru1⟩ := rx.get hx
    obtain ⟨u2, hu2, ru2⟩ := ry.get hy
    obtain ⟨u3, hu3, ru3⟩ := rz.get hv
    have hd : X.A.in1.handled = none := I.ok.hd hc
    have lt : ∀ {its : List Value} {u : Value}, its[i]? = some u → i < its.toArray.size := fun h => by have := (List.getElem?_eq_some_iff.mp h).1; simpa using this
    have hzl : z < s.heap.objs.size := Heap.lt_size hz
    refine wpAny_pyNext_zipD3_item (z3_sep D Oa Ob Oc) (Draws.tuple (A := X.A.in1) hd i1 a Oa.i1 ix.toArray) (Draws.tuple (A := X.A.in1) hd i2 b Ob.i2 iy.toArray) (Draws.tuple (A := X.A.in1) hd i3 c Oc.i3 iz.toArray)
      hz hTI hTO ⟨h1, pxa⟩ ⟨h2, pyb⟩ ⟨h3, pzc⟩ (lt hu1) (lt hu2) (lt hu3) fun w1 w2 w3 h' tk e1 e2 e3 z' TO' s1 s2 s3 hT hsz hk => ?_
    have same : ∀ {its : List Value} {u u' : Value}, its[i]? = some u → its.toArray[i]? = some u' → u' = u := fun {its u u'} h h' => by
      have e : its.toArray[i]? = some u := by simpa using h
      rw [e] at h'; exact (Option.some.inj h').symm
    have E1 := same hu1 e1
    have E2 := same hu2 e2
    have E3 := same hu3 e3
    subst E1; subst E2; subst E3
    refine ⟨_, rfl, wpAny_letOwnedTupleGo_zip (s := { s with heap := h', toks := tk }) z' fun h'' z'' sb => ?_⟩
    have hT2 : h''.get? s.heap.objs.size = some { cls := .type "tuple", data := .seq #[w1, w2, w3] } := (sb.2 _ (Nat.ne_of_gt hzl)).trans hT
    have new : ObjOk X.prog X.w (upd H s.heap.objs.size (.tup [x, y, v])) h'' s.heap.objs.size (.tup [x, y, v]) :=
      ⟨by show 3 ≤ sizeLine; decide, [w1, w2, w3], .cons ru1 (.cons ru2 (.cons ru3 .nil)), ⟨_, hT2, rfl, _, rfl⟩⟩
    have I1 : Inv X pins σ (upd H s.heap.objs.size (.tup [x, y, v])) { s with heap := h'', toks := tk } :=
      I.turnedNew (ch := [z, TI, TO, i1, i2, i3]) (fun e o hb q => (sb.2 e (fun q' => hb (by simp [q']))).trans (hk e o (fun q' => hb (by simp [q'])) (fun q' => hb (by simp [q'])) (fun q' => hb (by simp [q'])) (fun q' => hb (by simp [q'])) (fun q' => hb (by simp [q'])) q)) hf (Nat.le_refl _) new
    refine ⟨.ref s.heap.objs.size, _, I1, rfl, ⟨_, x, y, v, rfl, I.hok.fresh (Nat.le_refl _), rfl, fun l hl => by rw [I.tuple_inj hl hqx]; exact hx, fun l hl => by rw [I.tuple_inj hl hqy]; exact hy, fun l hl => by rw [I.tuple_inj hl hqz]; exact hv⟩, ⟨z'', ?_, ⟨w1, w2, w3, ?_⟩, ?_, ?_, ?_⟩, fun e hcm => ?_⟩
    · exact (sb.2 _ D.TIz).trans (hk _ _ D.TIz D.TITO D.TI1 D.TI2 D.TI3 hTI)
    · exact (sb.2 _ D.TOz).trans TO'
    · exact s1.1.at fun o q => (sb.2 _ (Ne.symm D.z1)).trans q
    · exact s2.1.at fun o q => (sb.2 _ (Ne.symm D.z2)).trans q
    · exact s3.1.at fun o q => (sb.2 _ (Ne.symm D.z3)).trans q
    · have hlt : e < s.heap.objs.size := by
        have e' : e = z ∨ e = TI ∨ e = TO ∨ e = i1 ∨ e = i2 ∨ e = i3 := by simpa using hcm
        rcases e' with q | q | q | q | q | q
        · rw [q]; exact hzl
        · rw [q]; exact Heap.lt_size hTI
        · rw [q]; exact Heap.lt_size hTO
        · rw [q]; obtain ⟨_, e1, _⟩ := h1; exact Heap.lt_size e1
        · rw [q]; obtain ⟨_, e1, _⟩ := h2; exact Heap.lt_size e1
        · rw [q]; obtain ⟨_, e1, _⟩ := h3; exact Heap.lt_size e1
      rw [upd_ne (Nat.ne_of_lt hlt)]
      exact (hf e hcm).1
  done := by
    intro X hP hw hK hc i pins s σ H E I hf st hg
    subst hP hw hK
    obtain ⟨hz, hTI, ⟨x0, y0, v0, hTO⟩, h1, h2, h3⟩ := st
    obtain ⟨xs, ys, zs, hqx, hqy, hqz, ⟨lx, ly, lz⟩, hend⟩ := hg
    obtain ⟨ix, rx, px, _⟩ := I.tuple hqx
    obtain ⟨iy, ry, py, _⟩ := I.tuple hqy
    obtain ⟨iz, rz, pz, _⟩ := I.tuple hqz
    have off : ∀ {e : Addr} {its : Array Value}, s.heap.IsTuple e its → e ≠ TO → Off3 z TI TO i1 i2 i3 e := fun p ne => ⟨zip_ne hz p, ne, tup_ne h1 p, tup_ne h2 p, tup_ne h3 p⟩
    have pxa : s.heap.IsTuple a ix.toArray := px
    have pyb : s.heap.IsTuple b iy.toArray := py
    have pzc : s.heap.IsTuple c iz.toArray := pz
    have Oa := off pxa aTO.1
    have Ob := off pyb aTO.2.1
    have Oc := off pzc aTO.2.2
    have e1 := rx.length
    have e2 := ry.length
    have e3 := rz.length
    have hd : X.A.in1.handled = none := I.ok.hd hc
    have sz : ∀ (l : List Value), l.toArray.size = l.length := fun l => by simp
    exact wpAny_pyNext_zipD3_end (z3_sep D Oa Ob Oc) (Draws.tuple (A := X.A.in1) hd i1 a Oa.i1 ix.toArray) (Draws.tuple (A := X.A.in1) hd i2 b Ob.i2 iy.toArray) (Draws.tuple (A := X.A.in1) hd i3 c Oc.i3 iz.toArray)
      hz hTI hTO ⟨h1, pxa⟩ ⟨h2, pyb⟩ ⟨h3, pzc⟩ (by rw [sz]; omega) (by rw [sz]; omega) (by rw [sz]; omega) (by rw [sz, sz, sz]; omega) fun h' tk hk => ⟨rfl, I.turnedL (t' := tk) (ch := [z, TI, TO, i1, i2, i3]) (fun e o hb q =>
        hk e o (fun q' => hb (by simp [q'])) (fun q' => hb (by simp [q'])) (fun q' => hb (by simp [q'])) (fun q' => hb (by simp [q'])) (fun q' => hb (by simp [q'])) q) hf⟩
  self := fun A i s Q E st h => wpAny_pyIter_zip st.1 h
def iZip3 (K : PySem.W.Frag) (ta : TA) : TI := fun σ H R => ta σ H fun vs H1 => ∃ a b c xs ys zs, vs = [.ref a, .ref b, .ref c] ∧ SqT K H1 a xs ∧ SqT K H1 b ys ∧ SqT K H1 c zs ∧ R (Itz3 K a b c) H1
theorem pi_zip3 {X : Cx} {e e2 e3 : Expr} {ta : TA} {p pos tpos : Pos} {elts : List Expr} {kk : Nat} (hg : Gl X "zip") (hm : X.mg "zip" = none) (ha : PA X [e, e2, e3] ta)
    (hs : starEach [e, e2, e3] X.env = (false, eval e X.env) :: starEach [e2, e3] X.env := by rfl) (hpl : (backTo pos (starEach [e2, e3] X.env)).any (·.1) = false := by rfl) :
    PI X (.Tuple elts kk tpos) (.Call (.Name "zip" p) [e, e2, e3] [] pos) (iZip3 X.K ta) := by
  refine ⟨fun pins s σ H R I h => ?_⟩
  refine Call_ (ld_blt I hg hm PyProof.Rows.boot_zip (PyProof.Rows.callWith_type1 (thn (ha.run pos pins s σ H _ I h) fun us s1 ⟨vs, H1, I1, r1, q1⟩ => ?_) hs hpl))
  obtain ⟨a, b, c, xs, ys, zs, ex, hqx, hqy, hqz, q⟩ := q1
  subst ex
  cases r1 with
  | cons r rr =>
    cases rr with
    | cons r' rr =>
      cases rr with
      | cons r'' rr =>
        cases rr
        cases r
        cases r'
        cases r''
        obtain ⟨ix, rx, px, _⟩ := I1.tuple hqx
        obtain ⟨iy, ry, py, _⟩ := I1.tuple hqy
        obtain ⟨iz, rz, pz, _⟩ := I1.tuple hqz
        have pxa : s1.heap.IsTuple a ix.toArray := px
        have pyb : s1.heap.IsTuple b iy.toArray := py
        have pzc : s1.heap.IsTuple c iz.toArray := pz
        have lt : ∀ {e : Addr} {its : Array Value}, s1.heap.IsTuple e its → e < s1.heap.objs.size := fun h => by obtain ⟨_, e, _⟩ := h; exact Heap.lt_size e
        refine zip_begins3 (begins_tuple a ix.toArray) (begins_tuple b iy.toArray) (begins_tuple c iz.toArray) pxa pyb pzc fun h' hz hTI hTO h1 h2 h3 hsz hk => wpAny_pyIter_zip hz ?_
        have I2 : Inv X pins σ H1 { s1 with heap := h' } := I1.kept (t' := s1.toks) hk
        have la := lt pxa
        have lb := lt pyb
        have lc := lt pzc
        have D : Z3 (s1.heap.objs.size + 5) (s1.heap.objs.size + 3) (s1.heap.objs.size + 4) s1.heap.objs.size (s1.heap.objs.size + 1) (s1.heap.objs.size + 2) := by
          constructor <;> exact fun e => by have e : (_ : Nat) = _ := e; omega
        refine ⟨s1.heap.objs.size + 5, [s1.heap.objs.size + 5, s1.heap.objs.size + 3, s1.heap.objs.size + 4, s1.heap.objs.size, s1.heap.objs.size + 1, s1.heap.objs.size + 2], _, _, H1, rfl, I2,
          turn_zip3 D ⟨fun e => ?_, fun e => ?_, fun e => ?_⟩, ⟨hz, hTI, ⟨_, _, _, hTO⟩, ⟨_, h1, rfl, rfl⟩, ⟨_, h2, rfl, rfl⟩, ⟨_, h3, rfl, rfl⟩⟩, fun e hcm => ?_, q⟩
        · rw [e] at la
          exact absurd la (Nat.not_lt.mpr (Nat.le_add_right _ _))
        · rw [e] at lb
          exact absurd lb (Nat.not_lt.mpr (Nat.le_add_right _ _))
        · rw [e] at lc
          exact absurd lc (Nat.not_lt.mpr (Nat.le_add_right _ _))
        · have e' : e = s1.heap.objs.size + 5 ∨ e = s1.heap.objs.size + 3 ∨ e = s1.heap.objs.size + 4 ∨ e = s1.heap.objs.size ∨ e = s1.heap.objs.size + 1 ∨ e = s1.heap.objs.size + 2 := by simpa using hcm
          have hle : s1.heap.objs.size ≤ e := by
            rcases e' with z | z | z | z | z | z
            · rw [z]; exact Nat.le_add_right _ _
            · rw [z]; exact Nat.le_add_right _ _
            · rw [z]; exact Nat.le_add_right _ _
            · rw [z]; exact Nat.le_refl _
            · rw [z]; exact Nat.le_add_right _ _
            · rw [z]; exact Nat.le_add_right _ _
          exact I1.fpOk hle (I1.hok.fresh hle)

/-! ### its reading -/
def zip3D : List PyData → List PyData → List PyData → List PyData
  | x :: xs, y :: ys, z :: zs => .tuple [x, y, z] :: zip3D xs ys zs
  | _, _, _ => []
theorem zip3D_get : ∀ {xs ys zs : List PyData} {i : Nat} {d : PyData}, (zip3D xs ys zs)[i]? = some d → ∃ x y z, xs[i]? = some x ∧ ys[i]? = some y ∧ zs[i]? = some z ∧ d = .tuple [x, y, z]
  | x :: xs, y :: ys, z :: zs, 0, d, e => by simp [zip3D] at e; exact ⟨x, y, z, rfl, rfl, rfl, e.symm⟩
  | x :: xs, y :: ys, z :: zs, i + 1, d, e => by
    obtain ⟨a, b, c, h⟩ := zip3D_get (xs := xs) (ys := ys) (zs := zs) (i := i) (d := d) (by simpa [zip3D] using e)
    exact ⟨a, b, c, by simpa using h⟩
  | [], _, _, _, _, e => by simp [zip3D] at e
  | _ :: _, [], _, _, _, e => by simp [zip3D] at e
  | _ :: _, _ :: _, [], _, _, e => by simp [zip3D] at e
theorem zip3D_len : ∀ {xs ys zs : List PyData}, (zip3D xs ys zs).length = min xs.length (min ys.length zs.length)
  | x :: xs, y :: ys, z :: zs => by simp [zip3D, zip3D_len] <;> omega
  | [], _, _ => by simp [zip3D]
  | _ :: _, [], _ => by simp [zip3D]
  | _ :: _, _ :: _, [] => by simp [zip3D]
def zip3P : List PyData → Option (List PyData)
  | [.tuple xs, .tuple ys, .tuple zs] => some (zip3D xs ys zs)
  | _ => none
def fZip3 (f : Ev → M (List Vl)) : Ev → M (List PyData) := fun ev => do
  let ws ← f ev
  let ds ← rdAll ws
  M.lift (zip3P ds)
section
variable {K : PySem.W.Frag} {wd : Wg}
theorem sqt_hide {r : Lv} {H : Hp} {D b : Addr} {ys : List V} (hb : SqT K H b ys) (hD : H D = none) : SqT K (upd H D (.lst [])) b ys := by
  rcases hb with (hb | ⟨o, hb⟩) | hb
  · exact .inl (.inl (by rw [upd_ne (ne_of_none hb hD)]; exact hb))
  · exact .inl (.inr ⟨o, by rw [upd_ne (ne_of_none hb hD)]; exact hb⟩)
  · exact .inr hb
theorem yields_zip3 {a b c : Addr} {ds es fs : List PyData} {vs us ws : List V} : Yields wd K (Itz3 K a b c) (zip3D ds es fs) (fun r H => (SqT K H a vs ∧ RpAll K r H vs ds) ∧ (SqT K H b us ∧ RpAll K r H us es) ∧ SqT K H c ws ∧ RpAll K r H ws fs) where
  go := fun r H i ⟨⟨h1, h2⟩, ⟨h3, h4⟩, h5, h6⟩ hi => by
    obtain ⟨x, y, z, e1, e2, e3, _⟩ := zip3D_get (List.getElem?_eq_getElem hi)
    obtain ⟨v1, g1, _⟩ := h2.get e1
    obtain ⟨v2, g2, _⟩ := h4.get e2
    obtain ⟨v3, g3, _⟩ := h6.get e3
    exact ⟨vs, us, ws, v1, v2, v3, h1, h3, h5, g1, g2, g3⟩
  yld := fun r H S i d x H' ⟨⟨h1, h2⟩, ⟨h3, h4⟩, h5, h6⟩ s e ⟨T, v1, v2, v3, ev, hT, eH, y1, y2, y3⟩ => by
    subst ev; subst eH
    obtain ⟨x, y, z, e1, e2, e3, rfl⟩ := zip3D_get e
    obtain ⟨w1, g1, q1⟩ := h2.get e1
    obtain ⟨w2, g2, q2⟩ := h4.get e2
    obtain ⟨w3, g3, q3⟩ := h6.get e3
    have k1 := y1 _ h1
    have k2 := y2 _ h3
    have k3 := y3 _ h5
    rw [g1] at k1; rw [g2] at k2; rw [g3] at k3
    cases k1; cases k2; cases k3
    have E : Ext false r r H (upd H T (.tup [v1, v2, v3])) := Ext.new s.mu hT
    exact ⟨E, s.new hT, .tup (.inl (.inl upd_same)) (.cons (q1.ext E) (.cons (q2.ext E) (.cons (q3.ext E) .nil)))⟩
  stop := fun r H ⟨⟨h1, h2⟩, ⟨h3, h4⟩, h5, h6⟩ => by
    refine ⟨vs, us, ws, h1, h3, h5, ?_, ?_⟩
    · rw [zip3D_len, h2.length, h4.length, h6.length]; omega
    · rw [zip3D_len, h2.length, h4.length, h6.length]; omega
  ext := fun lam r r' H H' ⟨⟨h1, h2⟩, ⟨h3, h4⟩, h5, h6⟩ e => ⟨⟨e.sqt h1, h2.ext e⟩, ⟨e.sqt h3, h4.ext e⟩, e.sqt h5, h6.ext e⟩
  hide := fun r H S D ⟨⟨h1, h2⟩, ⟨h3, h4⟩, h5, h6⟩ s hD => ⟨⟨sqt_hide (r := r) h1 hD, h2.hide hD⟩, ⟨sqt_hide (r := r) h3 hD, h4.hide hD⟩, sqt_hide (r := r) h5 hD, h6.hide hD⟩
  putH := fun r H S D xs ⟨⟨h1, h2⟩, ⟨h3, h4⟩, h5, h6⟩ s hD => ⟨⟨sqt_putH s.mu hD h1, Ext.putH s.mu hD h2⟩, ⟨sqt_putH s.mu hD h3, Ext.putH s.mu hD h4⟩, sqt_putH s.mu hD h5, Ext.putH s.mu hD h6⟩
end
section
variable {X : Cx} {c : Cf} {W : WX} {a b d : Expr} {fs : Ev → M (List Vl)}
theorem qi_zip3 {p pos tpos : Pos} {elts : List Expr} {kk : Nat} (hg : Gl X "zip") (hm : X.mg "zip" = none) (ha : QA X c W [a, b, d] fs) (hs : starEach [a, b, d] X.env = (false, eval a X.env) :: starEach [b, d] X.env := by rfl) (hpl : (backTo pos (starEach [b, d] X.env)).any (·.1) = false := by rfl) :
    QI X c W (.Tuple elts kk tpos) (.Call (.Name "zip" p) [a, b, d] [] pos) (fZip3 fs) := pi_weak (pi_zip3 hg hm ha hs hpl) fun σ H R ⟨r, ev, S, x, h⟩ => by
  refine tX.of x h.bind fun vs H1 ⟨r1, S1, ws, e1, s1, t1, q1, h1⟩ => ?_
  obtain ⟨ds, qd, h2⟩ := rdAll_run h1 s1 q1
  cases ez : zip3P ds with
  | none => rw [ez] at h2; obtain ⟨_, _, e, _⟩ := h2; cases e
  | some es =>
    rw [ez] at h2
    unfold zip3P at ez
    split at ez
    · cases ez
      cases qd with
      | cons p1 t => cases t with
        | cons p2 t => cases t with
          | cons p3 t =>
            cases t
            obtain ⟨a1, v1, rfl, g1, g2⟩ := p1.tup
            obtain ⟨a2, v2, rfl, g3, g4⟩ := p2.tup
            obtain ⟨a3, v3, rfl, g5, g6⟩ := p3.tup
            exact ⟨a1, a2, a3, v1, v2, v3, rfl, g1, g3, g5, h2.pure rfl s1 t1 ⟨_, yields_zip3, ⟨g1, g2⟩, ⟨g3, g4⟩, g5, g6⟩⟩
    · cases ez
end
end DD
/-! part EJ -/
set_option Elab.async false
set_option linter.all false
set_option maxRecDepth 100000
set_option maxHeartbeats 4000000
namespace DD
open PySem PySem.Spec PyProof.Rows L2 LamX

/-! ### a tuple, so many times -/
section
variable {X : Cx}
def mulTP : PyData → PyData → Option PyData
  | .tuple xs, .int k => if xs.isEmpty = false ∧ 2 ≤ k ∧ k ≤ 1000 ∧ xs.length ≤ 1000 then some (.tuple (List.replicate k.toNat xs).flatten) else none
  | _, _ => none
theorem q_mulT : OpQ X (binaryOp .Mult) mulTP := by
  refine ⟨_, op_repT, fun r H S x y a b z Q s qa qb e A => ?_⟩
  cases a <;> cases b <;> simp only [mulTP] at e <;> try cases e
  split at e
  · rename_i h
    cases e
    cases qb.int
    obtain ⟨p, vs, rfl, h1, h2⟩ := qa.tup
    obtain ⟨g1, g2, g3, g4⟩ := h
    refine ⟨p, _, vs, rfl, rfl, h1, fun e => ?_, g2, g3, by rw [h2.length]; exact g4, fun q hq => ?_⟩
    · subst e
      cases h2
      cases g1
    · exact A.new s hq (.tup (.inl (.inl upd_same)) ((h2.rep _).ext (Ext.new (lam := false) s.mu hq)))
  · cases e
end

/-! ### len of a dict -/
def fLenK (f : Ev → M (List Vl)) : Ev → M Vl := fun ev => do
  let ws ← f ev
  match ws with
  | [w] => do
    let p ← dictAt w
    if p.2.length ≤ 1000000 then pure (.d (.int p.2.length)) else M.fail
  | _ => M.fail
section
variable {X : Cx} {c : Cf} {W : WX} {e : Expr} {es : List Expr} {fs : Ev → M (List Vl)} {pos : Pos}
def rLenD (X : Cx) : List V → Hp → VK → Prop := fun xs H Q => ∃ a ps, xs = [.ref a] ∧ HasD H a X.w ps ∧ (∀ p ∈ ps, isTupK p.1 = true) ∧ (∃ r qs, RpKV X.K r H ps qs) ∧ Q (.int ((ps.length : Nat) : Int)) H
theorem call_len_hd : CallR X (.builtin "len") (rLenD X) := by
  intro pins s σ H xs us Q I r h
  obtain ⟨a, ps, rfl, hd, ht, ⟨rr, qs, hq⟩, q⟩ := h
  obtain ⟨u, rfl, rx⟩ := vals1 r
  obtain rfl : u = .ref a := rx
  obtain ⟨xs, kt, dd⟩ := dform_tup I hd hq ht
  have df := dform_at I hd
  have hl : xs.length = ps.length := (Paired.length kt).symm
  have hz := df.1
  rw [sizeLine_eq] at hz
  refine call_len_dictH df.2.1 dd (by rw [hl]; omega) ⟨.int _, H, I.tok _, ⟨_, by rw [hl]⟩, q⟩
theorem qe_lenK {p : Pos} (hg : Gl X "len") (hm : X.mg "len" = none) (ha : QA X c W (e :: es) fs) (he : starEach (e :: es) X.env = (false, eval e X.env) :: starEach es X.env := by rfl) (hpl : (backTo pos (starEach es X.env)).any (·.1) = false := by rfl) :
    QE X c W (.Call (.Name "len" p) (e :: es) [] pos) (fun ev => do
      let ws ← fs ev
      match ws with
      | [w] => do
        let p ← dictAt w
        if p.2.all (fun q => q.1.isTup) then pure (.d (.int p.2.length)) else M.fail
      | _ => M.fail) :=
  pe_weak (pe_callB call_len_hd hg hm PySem.boot_len ha (by decide) (by decide) he hpl) fun σ H Q ⟨r, ev, S, x, h⟩ => by
    refine tX.of x h.bind fun vs H1 ⟨r1, S1, ws, e1, s1, t1, q1, h1⟩ => ?_
    split at h1
    · cases q1 with
      | cons q q' =>
        cases q'
        obtain ⟨n, a, kvs, ps, g1, rfl, g3, g4, rfl, h2⟩ := dictAt_run h1 s1 q
        dsimp only at h2
        split at h2
        · rename_i ht
          refine ⟨a, ps, rfl, g3, fun p hp => ?_, ⟨r1, kvs, g4⟩, ?_⟩
          · have all : ∀ {ps : List (NestedKey × Addr × V)} {qs : List (NK × PyData)}, RpKV X.K r1 H1 ps qs → (qs.all fun q => q.1.isTup) = true → ∀ p ∈ ps, isTupK p.1 = true := by
              intro ps qs h
              induction h with
              | nil => exact fun _ p hp => nomatch hp
              | cons _ _ _ ih =>
                intro o p hp
                obtain ⟨o1, o2⟩ := Bool.and_eq_true_iff.mp (by rw [List.all_cons] at o; exact o)
                rcases List.mem_cons.mp hp with e | hp
                · rw [e]; exact (isTup_toN _).trans o1
                · exact ih o2 p hp
            exact all g4 ht p hp
          · rw [RpKV.length g4]
            exact h2.pure rfl s1 t1 (show Rp X.K _ _ _ _ from .int _)
        · exact (fail_run h2).elim
    · exact (fail_run h1).elim
def fLenT (f : Ev → M (List Vl)) : Ev → M Vl := fun ev => do
  let ws ← f ev
  match ws with
  | [w] => do
    let p ← dictAt w
    if p.2.all (fun q => q.1.isTup) then pure (.d (.int p.2.length)) else M.fail
  | _ => M.fail
theorem qe_lenT {p : Pos} (hg : Gl X "len") (hm : X.mg "len" = none) (ha : QA X c W (e :: es) fs) (he : starEach (e :: es) X.env = (false, eval e X.env) :: starEach es X.env := by rfl) (hpl : (backTo pos (starEach es X.env)).any (·.1) = false := by rfl) :
    QE X c W (.Call (.Name "len" p) (e :: es) [] pos) (fLenT fs) := qe_lenK hg hm ha he hpl
end

/-! ### defs and methods by their bodies -/
section
variable {P : Program} {w : World} {K : PySem.W.Frag} {mg : Str → Option Value} {base : Heap}
theorem fn_defK {x qual : Str} {st : Stmt} {f : Addr} {fd : FuncData} {N ps : List Str} {k : Nat} {fb : SM} (F : Fun K x qual st f fd) (S : FnScope N ps (defScope st))
    (hb : ∀ (cdv : Value) (A : Around) (outer : List Env) (s : Shared) (H : Hp) (E : XK), Room k (A.deeper (envOfC qual (defScope st) s.heap.objs.size f cdv)) →
      QSs (cxOf (L2.CX P w) P w K mg base N qual (defScope st) f cdv A outer s H E) cf0 (fun cls d _ H => E cls d H) (defBody st) fb) : FnOk P w K mg base (L2.CX P w) (k + 1) f fd ps (spM w K mg ps.length (mDefK N.length fb)) := by
  have hpl : ps.length ≤ N.length := by have := congrArg List.length S.pre; rw [List.length_take] at this; omega
  obtain ⟨oc, od, kV, doc, pm, an, cdv, ct, osl, rfl, lk, hcd⟩ := F.ex
  refine fn_of lk hcd S (fun vs H Q E h => h.1) fun A outer s H vs Q E hr hsp => ⟨_, hb cdv A outer s H E hr, ?_⟩
  obtain ⟨hn, r, Sx, ws, o, S', sto, q, e, h⟩ := hsp
  unfold mDefK at e
  cases ef : fb (startE N.length ws) Sx with
  | none => rw [ef] at e; cases e
  | some p =>
    obtain ⟨fl, ev', S2⟩ := p
    rw [ef] at e
    have rel : Rel (cxOf (L2.CX P w) P w K mg base N qual (defScope st) f cdv A outer s H E) cf0 r (L2.start N vs) H (startE N.length ws) Sx := ⟨sto, fun p hp => absurd hp (by simp [cf0]), start_ev q (by omega), start_len (by omega)⟩
    refine ⟨r, _, Sx, rel, fl, ev', S2, ef, ?_⟩
    cases fl with
    | nx =>
      cases e
      exact fun r' σ' H' E' x' => h r' .non H' E' x'.sto (show Rp K r' H' .non .none from .non)
    | bk => cases e
    | ct => cases e
    | rt w0 =>
      cases e
      exact fun r' v H' E' s' _ q' => h r' v H' E' s' q'
    | ex y =>
      cases e
      obtain ⟨C, hC, h⟩ := h
      exact ⟨C, hC, fun r' σ' H' E' x' => h r' H' E' x'.sto⟩
theorem fn_def {x qual : Str} {st : Stmt} {f : Addr} {fd : FuncData} {N ps : List Str} {k : Nat} {fb : SM} (F : Fun K x qual st f fd) (S : FnScope N ps (defScope st))
    (hb : ∀ (cdv : Value) (A : Around) (outer : List Env) (s : Shared) (H : Hp) (E : XK), Room k (A.deeper (envOfC qual (defScope st) s.heap.objs.size f cdv)) →
      QSs (cxOf (L2.CX P w) P w K mg base N qual (defScope st) f cdv A outer s H E) cf0 (fun cls d _ H => E cls d H) (defBody st) fb) : FnOk P w K mg base (L2.CX P w) (k + 1) f fd ps (spM w K mg ps.length (mDef N.length fb)) := by
  have hpl : ps.length ≤ N.length := by have := congrArg List.length S.pre; rw [List.length_take] at this; omega
  obtain ⟨oc, od, kV, doc, pm, an, cdv, ct, osl, rfl, lk, hcd⟩ := F.ex
  refine fn_of lk hcd S (fun vs H Q E h => h.1) fun A outer s H vs Q E hr hsp => ⟨_, hb cdv A outer s H E hr, ?_⟩
  obtain ⟨hn, r, Sx, ws, o, S', sto, q, e, h⟩ := hsp
  unfold mDef at e
  cases ef : fb (startE N.length ws) Sx with
  | none => rw [ef] at e; cases e
  | some p =>
    obtain ⟨fl, ev', S2⟩ := p
    rw [ef] at e
    have rel : Rel (cxOf (L2.CX P w) P w K mg base N qual (defScope st) f cdv A outer s H E) cf0 r (L2.start N vs) H (startE N.length ws) Sx := ⟨sto, fun p hp => absurd hp (by simp [cf0]), start_ev q (by omega), start_len (by omega)⟩
    refine ⟨r, _, Sx, rel, fl, ev', S2, ef, ?_⟩
    cases fl with
    | nx =>
      intro r' σ' H' E' x'
      obtain ⟨w', rfl, h1, h2, h3⟩ := fin_ok (K := K) (mg := mg) (v := .non) (w := .d .none) sto.len E' x'.sto (show Rp K r' H' .non .none from .non) e
      exact h r .non H' h1 h2 h3
    | bk => cases e
    | ct => cases e
    | rt w0 =>
      intro r' v H' E' s' _ q'
      obtain ⟨w', rfl, h1, h2, h3⟩ := fin_ok sto.len E' s' q' e
      exact h r v H' h1 h2 h3
    | ex y =>
      dsimp only at e
      split at e
      · rename_i T hT
        cases e
        obtain ⟨C, hC, h⟩ := h
        refine ⟨C, hC, fun r' σ' H' E' x' => h r H' E'.cut ?_⟩
        have pre : ∃ new, r' = ⟨r.st ++ new, r.hid⟩ := by obtain ⟨n, h, _⟩ := E'.pre; exact ⟨n, h⟩
        rw [← sto.len] at hT
        exact x'.sto.cut pre hT
      · cases e
theorem has_ofK {x : Str} {st : Stmt} {N ps : List Str} {k : Nat} {fb : SM} (D : DefAt K mg x st ps) (S : FnScope N ps (defScope st))
    (hb : ∀ (f : Addr) (cdv : Value) (A : Around) (outer : List Env) (s : Shared) (H : Hp) (E : XK), Room k (A.deeper (envOfC x (defScope st) s.heap.objs.size f cdv)) →
      QSs (cxOf (L2.CX P w) P w K mg base N x (defScope st) f cdv A outer s H E) cf0 (fun cls d _ H => E cls d H) (defBody st) fb) : Has P w K mg base (k + 1) x ps.length (mDefK N.length fb) := by
  obtain ⟨f, fd, F, hg, b⟩ := D
  exact has_defK F hg S b fun cdv A outer s H E hr => hb f cdv A outer s H E hr
/-- a method's text -/
def MethAt (K : PySem.W.Frag) (mg : Str → Option Value) (c m qual : Str) (st : Stmt) (ps : List Str) : Prop := ∃ C f fd, mg c = some (.ref C) ∧ Cls K C ∧ Meth K C m f ∧ Fun K m qual st f fd ∧ Binds K fd ps []
def InitAt (K : PySem.W.Frag) (mg : Str → Option Value) (c qual : Str) (st : Stmt) (ps : List Str) : Prop := ∃ C f fd, mg c = some (.ref C) ∧ Mk K C f ∧ Fun K "__init__" qual st f fd ∧ Binds K fd ps []
theorem hasM_of {c m qual : Str} {st : Stmt} {N ps : List Str} {k : Nat} {fb : SM} (D : MethAt K mg c m qual st ps) (S : FnScope N ps (defScope st))
    (hb : ∀ (f : Addr) (cdv : Value) (A : Around) (outer : List Env) (s : Shared) (H : Hp) (E : XK), Room k (A.deeper (envOfC qual (defScope st) s.heap.objs.size f cdv)) →
      QSs (cxOf (L2.CX P w) P w K mg base N qual (defScope st) f cdv A outer s H E) cf0 (fun cls d _ H => E cls d H) (defBody st) fb) : HasM P w K mg base (k + 1) c m ps.length (mDef N.length fb) := by
  obtain ⟨C, f, fd, hg, hC, hM, F, b⟩ := D
  exact ⟨C, f, fd, ps, hg, hC, hM, b, fn_def F S fun cdv A outer s H E hr => hb f cdv A outer s H E hr⟩
theorem hasI_of {c qual : Str} {st : Stmt} {N ps : List Str} {k : Nat} {fb : SM} (D : InitAt K mg c qual st ps) (S : FnScope N ps (defScope st))
    (hb : ∀ (f : Addr) (cdv : Value) (A : Around) (outer : List Env) (s : Shared) (H : Hp) (E : XK), Room k (A.deeper (envOfC qual (defScope st) s.heap.objs.size f cdv)) →
      QSs (cxOf (L2.CX P w) P w K mg base N qual (defScope st) f cdv A outer s H E) cf0 (fun cls d _ H => E cls d H) (defBody st) fb) : HasI P w K mg base (k + 1) c ps.length (mDefK N.length fb) := by
  obtain ⟨C, f, fd, hg, hC, F, b⟩ := D
  exact ⟨C, f, fd, ps, hg, hC, b, fn_defK F S fun cdv A outer s H E hr => hb f cdv A outer s H E hr⟩
theorem FnOk.up {CX : CXT} {f : Addr} {fd : FuncData} {ps : List Str} {sp : Sp} {k j : Nat} (h : FnOk P w K mg base CX k f fd ps sp) (hj : k ≤ j) : FnOk P w K mg base CX j f fd ps sp := h.mono hj
theorem HasM.mono {k j n : Nat} {c m : Str} {mm : List Vl → M Vl} (h : HasM P w K mg base k c m n mm) (hj : k ≤ j) : HasM P w K mg base j c m n mm := by
  obtain ⟨C, f, fd, ps, h1, h2, h3, h4, h5⟩ := h
  exact ⟨C, f, fd, ps, h1, h2, h3, h4, h5.mono hj⟩
theorem HasI.mono {k j n : Nat} {c : Str} {mm : List Vl → M Vl} (h : HasI P w K mg base k c n mm) (hj : k ≤ j) : HasI P w K mg base j c n mm := by
  obtain ⟨C, f, fd, ps, h1, h2, h3, h4⟩ := h
  exact ⟨C, f, fd, ps, h1, h2, h3, h4.mono hj⟩
end
/-! ### from a head's facts -/
section
variable {K : PySem.W.Frag} {h : Heap} {mg : Str → Option Value} {w : World}
theorem fun_ofQ {x qual : Str} {st : Stmt} {f : Addr} {fd : FuncData} (F : FunD K x qual (defArgs st) (defBody st) (defScope st) [] [] f fd) : Fun K x qual st f fd := by
  obtain ⟨oc, od, dV, kV, doc, pm, an, cdv, ct, osl, e, lk, hc, hD, hK⟩ := F.ex
  rcases hD with ⟨_, rfl⟩ | ⟨z, _⟩
  · exact ⟨⟨oc, od, kV, doc, pm, an, cdv, ct, osl, e, lk, hc⟩, F.kp⟩
  · exact absurd rfl z
theorem methAt_of (X : K.In h) (G : h.Ns mainGlobals mg) {c m qual : Str} {st : Stmt} {ps : List Str} (F : ∃ fd, FunD K m qual (defArgs st) (defBody st) (defScope st) [] [] (He.fAd K (c, some m)) fd) (g : (He.Fa.glo c).ok K = true) (hc : (He.Fa.cls c).ok K = true) (hm : (He.Fa.meth c m).ok K = true)
    (hb : ∀ (kV doc pm : Value) (an : Option Addr) (cdv ct : Value) (us : List Value), us.length = ps.length → bindArgs (PySem.W.fnOf m qual (defArgs st) (defBody st) (defScope st) .none kV doc pm an cdv ct) ⟨us, []⟩ = pure (ps.zip us)) : MethAt K mg c m qual st ps := by
  obtain ⟨fd, F⟩ := F
  exact ⟨_, _, fd, He.glo_ok X G g, He.cls_ok hc, He.meth_ok hm, fun_ofQ F, F.bindsN hb⟩
theorem initAt_of (X : K.In h) (G : h.Ns mainGlobals mg) {c qual : Str} {st : Stmt} {ps : List Str} (F : ∃ fd, FunD K "__init__" qual (defArgs st) (defBody st) (defScope st) [] [] (He.fAd K (c, some "__init__")) fd) (g : (He.Fa.glo c).ok K = true) (hm : (He.Fa.mkr c).ok K = true)
    (hb : ∀ (kV doc pm : Value) (an : Option Addr) (cdv ct : Value) (us : List Value), us.length = ps.length → bindArgs (PySem.W.fnOf "__init__" qual (defArgs st) (defBody st) (defScope st) .none kV doc pm an cdv ct) ⟨us, []⟩ = pure (ps.zip us)) : InitAt K mg c qual st ps := by
  obtain ⟨fd, F⟩ := F
  exact ⟨_, _, fd, He.glo_ok X G g, He.mkr_ok hm, fun_ofQ F, F.bindsN hb⟩
theorem clsN_of (X : K.In h) (G : h.Ns mainGlobals mg) {c : Str} (g : (He.Fa.glo c).ok K = true) (hc : (He.Fa.cls c).ok K = true) : ClsN K mg c := ⟨_, He.glo_ok X G g, He.cls_ok hc⟩
theorem noAt_of (X : K.In h) (G : h.Ns mainGlobals mg) {c f : Str} (g : (He.Fa.glo c).ok K = true) (hc : (He.Fa.noat c f).ok K = true) : NoAt K mg c f := ⟨_, He.glo_ok X G g, He.noat_ok hc⟩
end
end DD
/-! part EK -/
set_option Elab.async false
set_option linter.all false
set_option maxRecDepth 100000
set_option maxHeartbeats 4000000
namespace DD
open PySem PySem.Spec PyProof.Rows L2 LamX

/-! ### x = {k: v for ..} -/
section
variable {X : Cx} {c : Cf} {W : WX}
theorem swD_true {kx vx : Expr} {gs : List Comprehension} {scope : Scope} {pos py : Pos} {y : Str} {l : Nat} {env : Env} (hk : env.scope.kind = .function) (hy : env.scope.names.lookup y = some .local) (hl : (py.line == pos.line) = true)
    (ha : (scope.names.any fun (n, k) => n == y && (k == .local || k == .cell)) = false) : swapsWith (.DictComp kx vx gs scope pos) (some (.Name y py)) l env = pure true := by
  have ky : env.kindOf y = some .local := hy
  have hb : env.blockKind = .function := by unfold Env.blockKind; rw [hk]; rfl
  unfold swapsWith
  simp only [hb, ky, ha, Expr.pos, hl]
  rfl
theorem ps_setDcK {i : Nat} {y : Str} {py : Pos} {kx vx tg iter : Expr} {ifs : List Expr} {scope : Scope} {own : List (Str × Nat)} {pos spos : Pos} {wi : TI} {g : TG} {tt : TT} {tk tv : TE} (hu : X.A.units + 64 < cLine) (hc : X.calm = true) (hN : X.N.Nodup) (hy : X.N[i]? = some y) (hyl : X.env.scope.names.lookup y = some .local)
    (hsw : swapsWith (.DictComp kx vx [⟨tg, iter, ifs, 0⟩] scope pos) (some (.Name y py)) spos.line X.env = pure true) (hi : PI X tg iter wi) (ok : BlkOk X.N X.env.scope scope own)
    (hg : ∀ (s : Shared) (H : Hp) (C : Addr) (cl : List (Str × Addr)) (fp : List Addr), PG (X.blk s H scope (compEnvC scope cl C X.env) fp) tg g) (ht : ∀ (s : Shared) (H : Hp) (C : Addr) (cl : List (Str × Addr)) (fp : List Addr), PTs (X.blk s H scope (compEnvC scope cl C X.env) fp) ifs tt)
    (hk : ∀ (s : Shared) (H : Hp) (C : Addr) (cl : List (Str × Addr)) (fp : List Addr), PE (X.blk s H scope (compEnvC scope cl C X.env) fp) kx tk) (he : ∀ (s : Shared) (H : Hp) (C : Addr) (cl : List (Str × Addr)) (fp : List Addr), PE (X.blk s H scope (compEnvC scope cl C X.env) fp) vx tv) (hs : ∀ x, foldedSetIterable iter X.env x = pure x := by intro _; rfl) :
    PS X (.Assign [.Name y py] (.DictComp kx vx [⟨tg, iter, ifs, 0⟩] scope pos) spos) (tAsg (tDcK X wi g tt tk tv (own.map (·.2))) (gName i)) := by
  refine ⟨fun pins s σ H D I h => ?_⟩
  rw [exec_Assign_Name_used _ _ _ _ hsw]
  refine wpAny_bind (wpAny_standAt (wpAny_bind ?_))
  show wpAny _ X.A (do let _ ← comprehension (.DictComp kx vx [⟨tg, iter, ifs, 0⟩] scope pos) scope X.env (firstIterPos [⟨tg, iter, ifs, 0⟩] pos) newDict false (eval iter X.env) (some (assign (.Name y py) X.env))) _ _ s
  have h : tDcK X wi g tt tk tv (own.map (·.2)) σ H (fun x H1 => gName i x σ H1 D.nx) := h
  refine wpAny_bind (thn (dcK_core (Qf := fun _ s' => SP X pins D .next s') hu hc hN I hi ok hg ht hk he hs h fun L C s' m H' I' q hn f => ?_) fun _ s' hq => wpAny_pure (wpAny_pure hq))
  show wpAny _ _ (assign (.Name y py) X.env (.ref L)) _ _ _
  refine wpAny_assign_Name (store_ok2 (v := V.ref L) I' hN hy (.inl hyl) rfl (fun s2 I2 ⟨a, sb, ha⟩ => ?_) (.inr hyl))
  have haC : C ≠ a := ha.elim (fun z => by rw [z]; exact f.2.1) fun z e => f.2.2.2.2.1 y a z e.symm
  exact ⟨m, hn.sameBut sb haC, fun h3 sb3 => ⟨_, H', I2.turned (t' := s2.toks) (fun b o hb e => (sb3.2 b hb).trans e) f.1 f.2.1 f.2.2.2.1 f.2.2.2.2.1 f.2.2.2.2.2, q⟩⟩
theorem qs_compD (m : Nat) (i : Nat) {y : Str} {py : Pos} {kx vx tg it : Expr} {ifs : List Expr} {scope : Scope} {own : List (Str × Nat)} {pos spos : Pos} {fi : Ev → M Rdr} {g : Vl → Ev → Option Ev} {t : Ev → M Bool} {ek ee : Ev → M Vl} {is : List Nat} (hu : X.A.units + 64 < cLine) (hc : X.calm = true) (hN : X.N.Nodup) (hi : QIM X c W tg it fi) (ok : BlkOk X.N X.env.scope scope own)
    (hg : ∀ (s : Shared) (H : Hp) (C : Addr) (cl : List (Str × Addr)) (fp : List Addr), QG (X.blk s H scope (compEnvC scope cl C X.env) fp) c tg g is) (ht : ∀ (s : Shared) (H : Hp) (C : Addr) (cl : List (Str × Addr)) (fp : List Addr), QTs (X.blk s H scope (compEnvC scope cl C X.env) fp) c W0 ifs t)
    (hk : ∀ (s : Shared) (H : Hp) (C : Addr) (cl : List (Str × Addr)) (fp : List Addr), QE (X.blk s H scope (compEnvC scope cl C X.env) fp) c W0 kx ek) (he : ∀ (s : Shared) (H : Hp) (C : Addr) (cl : List (Str × Addr)) (fp : List Addr), QE (X.blk s H scope (compEnvC scope cl C X.env) fp) c W0 vx ee)
    (hsw : swapsWith (.DictComp kx vx [⟨tg, it, ifs, 0⟩] scope pos) (some (.Name y py)) spos.line X.env = pure true)
    (his : ∀ i ∈ is, i ∈ own.map (·.2) := by decide) (hy : X.N[i]? = some y := by rfl) (hyl : X.env.scope.names.lookup y = some .local := by rfl) (hs : ∀ x, foldedSetIterable it X.env x = pure x := by intro _; rfl) :
    QS X c W (.Assign [.Name y py] (.DictComp kx vx [⟨tg, it, ifs, 0⟩] scope pos) spos) (sSet i (fCompD m fi g t ek ee (own.map (·.2)))) := by
  refine ps_weak (ps_setDcK (wi := tX X c W (RIM (wg X) X.K X.mg) fi) (g := tG X c g is) (tt := tT X c W0 t) (tk := tE X c W0 ek) (tv := tE X c W0 ee) hu hc hN hy hyl hsw hi ok (fun s H C cl fp => pg_blk (hg s H C cl fp)) (fun s H C cl fp => pts_blk (ht s H C cl fp)) (fun s H C cl fp => pe_blk (hk s H C cl fp)) (fun s H C cl fp => pe_blk (he s H C cl fp)) hs) fun D σ H ⟨r, ev, S, x, h⟩ => ?_
  have h := tX.of x (h.onE (R := Rw X.K X.mg) x) fun v H1 q => q
  refine compD_weak (m := m) his ?_
  obtain ⟨r0, ev0, S0, x0, h⟩ := h
  exact ⟨r0, ev0, S0, x0, h.mono fun v H1 ⟨r1, S1, w, e1, x1, q1, h1⟩ => h1.nx (x1.set hy q1)⟩
end
end DD
/-! part A1 -/
set_option Elab.async false
set_option linter.all false
set_option maxRecDepth 100000
set_option maxHeartbeats 4000000
namespace K14
open PySem PySem.Spec PyProof.Rows L2 LamX DD
def tab_FORMS : List (Str × Str) := [("counter", "_has_size"), ("register", "_has_size"), ("stack", "_has_room_and_size"), ("queue", "_has_room_and_size"), ("set", "_has_size"), ("agree", "_has_size"), ("bank", "_has_amounts"), ("table", "_has_rows")]
def tab_CALLS : List (Str × Str) := [("counter", "_counter_calls"), ("register", "_register_calls"), ("stack", "_stack_calls"), ("queue", "_queue_calls"), ("set", "_set_calls"), ("agree", "_agree_calls"), ("bank", "_bank_calls"), ("table", "_table_calls")]
def tab_STEPS : List (Str × Str) := [("counter", "_counter_step"), ("register", "_register_step"), ("stack", "_stack_step"), ("queue", "_queue_step"), ("set", "_set_step"), ("agree", "_agree_step"), ("bank", "_bank_step"), ("table", "_table_step")]
theorem sc_is_integer : FnScope ["value"] ["value"] (defScope s_is_integer) := ⟨rfl, rfl, rfl, by decide +kernel, rfl, by decide +kernel, by decide +kernel⟩
def b_is_integer : SM := (sRet (fAndV (fUn (isiP .int) (fVar 0)) (fNotV (fUn (isiP .bool) (fVar 0)))))
def m_is_integer : List Vl → M Vl := mDef 1 b_is_integer
theorem sc_is_within : FnScope ["value", "low", "high"] ["value", "low", "high"] (defScope s_is_within) := ⟨rfl, rfl, rfl, by decide +kernel, rfl, by decide +kernel, by decide +kernel⟩
def b_is_within : SM := (sRet (fAndV (fDef 1 m_is_integer (fCons (fVar 0) fNil)) (fChain leP leP (fVar 1) (fVar 0) (fVar 2))))
def m_is_within : List Vl → M Vl := mDef 3 b_is_within
theorem sc_same : FnScope ["one", "other", "left", "right"] ["one", "other"] (defScope s_same) := ⟨rfl, rfl, rfl, by decide +kernel, rfl, by decide +kernel, by decide +kernel⟩
def b_same (self : List Vl → M Vl) : SM := (sSeq (sIf (fB (fUn (isiP .tup) (fVar 0))) (sSeq (sIf (fOr (fNot (fB (fUn (isiP .tup) (fVar 1)))) (fB (fOp neP (fCall lenP (fCons (fVar 0) fNil)) (fCall lenP (fCons (fVar 1) fNil))))) (sRet (fC (.bool false))) sPass) (sRet (fCall allP (fCons (fComp (fZip (fCons (fVar 0) (fCons (fVar 1) fNil))) (gT 2 (gsCons (gN 2) (gsCons (gN 3) gsNil))) fYes (fDef 2 self (fCons (fVar 2) (fCons (fVar 3) fNil))) [2, 3]) fNil)))) sPass) (sSeq (sIf (fB (fOp isP (fVar 0) (fC .none))) (sRet (fOp isP (fVar 1) (fC .none))) sPass) (sSeq (sIf (fB (fUn (isiP .bool) (fVar 0))) (sRet (fAndV (fUn (isiP .bool) (fVar 1)) (fOp eqP (fVar 0) (fVar 1)))) sPass) (sSeq (sIf (fB (fUn (isiP .int) (fVar 0))) (sRet (fAndV (fDef 1 m_is_integer (fCons (fVar 1) fNil)) (fOp eqP (fVar 0) (fVar 1)))) sPass) (sRet (fAndV (fUn (isiP .str) (fVar 0)) (fAndV (fUn (isiP .str) (fVar 1)) (fOp eqP (fVar 0) (fVar 1)))))))))
def m_same : Nat → List Vl → M Vl
  | 0 => fun _ => M.fail
  | n + 1 => mDef 4 (b_same (m_same n))
theorem sc_counter_calls : FnScope ["thing", "k"] ["thing"] (defScope s_counter_calls) := ⟨rfl, rfl, rfl, by decide +kernel, rfl, by decide +kernel, by decide +kernel⟩
def b_counter_calls : SM := (sRet (fOp addP (fComp (fRange rng2P (fCons (fC (.int 1)) (fCons (fOp ixP (fVar 0) (fC (.int 1))) fNil))) (gN 1) fYes (fTup (fCons (fC (.str "add")) (fCons (fVar 1) fNil))) [1]) (fLst (fCons (fTup (fCons (fC (.str "look")) fNil)) fNil))))
def m_counter_calls : List Vl → M Vl := mDef 2 b_counter_calls
theorem sc_register_calls : FnScope ["thing", "puts", "k"] ["thing"] (defScope s_register_calls) := ⟨rfl, rfl, rfl, by decide +kernel, rfl, by decide +kernel, by decide +kernel⟩
def b_register_calls : SM := (sSeq (sSet 1 (fComp (fRange rng1P (fCons (fOp ixP (fVar 0) (fC (.int 1))) fNil)) (gN 2) fYes (fTup (fCons (fC (.str "put")) (fCons (fVar 2) fNil))) [2])) (sRet (fOp addP (fOp addP (fLst (fCons (fTup (fCons (fC (.str "look")) fNil)) fNil)) (fVar 1)) (fComp (fRange rng1P (fCons (fOp ixP (fVar 0) (fC (.int 1))) fNil)) (gN 2) fYes (fTup (fCons (fC (.str "trade")) (fCons (fVar 2) fNil))) [2]))))
def m_register_calls : List Vl → M Vl := mDef 3 b_register_calls
theorem sc_stack_calls : FnScope ["thing", "k"] ["thing"] (defScope s_stack_calls) := ⟨rfl, rfl, rfl, by decide +kernel, rfl, by decide +kernel, by decide +kernel⟩
def b_stack_calls : SM := (sRet (fOp addP (fLst (fCons (fTup (fCons (fC (.str "pop")) fNil)) fNil)) (fComp (fRange rng1P (fCons (fOp ixP (fVar 0) (fC (.int 2))) fNil)) (gN 1) fYes (fTup (fCons (fC (.str "push")) (fCons (fVar 1) fNil))) [1])))
def m_stack_calls : List Vl → M Vl := mDef 2 b_stack_calls
theorem sc_queue_calls : FnScope ["thing", "k"] ["thing"] (defScope s_queue_calls) := ⟨rfl, rfl, rfl, by decide +kernel, rfl, by decide +kernel, by decide +kernel⟩
def b_queue_calls : SM := (sRet (fOp addP (fComp (fRange rng1P (fCons (fOp ixP (fVar 0) (fC (.int 2))) fNil)) (gN 1) fYes (fTup (fCons (fC (.str "enter")) (fCons (fVar 1) fNil))) [1]) (fLst (fCons (fTup (fCons (fC (.str "leave")) fNil)) fNil))))
def m_queue_calls : List Vl → M Vl := mDef 2 b_queue_calls
theorem sc_set_calls : FnScope ["thing", "word", "k"] ["thing"] (defScope s_set_calls) := ⟨rfl, rfl, rfl, by decide +kernel, rfl, by decide +kernel, by decide +kernel⟩
def b_set_calls : SM := (sRet (fCompN (fItems (fTup (fCons (fC (.str "add")) (fCons (fC (.str "drop")) (fCons (fC (.str "has")) fNil))))) (gN 1) fYes (bdC (fRange rng1P (fCons (fOp ixP (fVar 0) (fC (.int 1))) fNil)) (gN 2) fYes (bdE (fTup (fCons (fVar 1) (fCons (fVar 2) fNil)))) [2]) [1, 2]))
def m_set_calls : List Vl → M Vl := mDef 3 b_set_calls
theorem sc_agree_calls : FnScope ["thing", "k"] ["thing"] (defScope s_agree_calls) := ⟨rfl, rfl, rfl, by decide +kernel, rfl, by decide +kernel, by decide +kernel⟩
def b_agree_calls : SM := (sRet (fComp (fRange rng1P (fCons (fOp ixP (fVar 0) (fC (.int 1))) fNil)) (gN 1) fYes (fTup (fCons (fC (.str "decide")) (fCons (fVar 1) fNil))) [1]))
def m_agree_calls : List Vl → M Vl := mDef 2 b_agree_calls
theorem sc_bank_calls : FnScope ["thing", "places", "looks", "a", "b", "k"] ["thing"] (defScope s_bank_calls) := ⟨rfl, rfl, rfl, by decide +kernel, rfl, by decide +kernel, by decide +kernel⟩
def b_bank_calls : SM := (sSeq (sSet 1 (fRngV (fCons (fCall lenP (fCons (fOp ixP (fVar 0) (fC (.int 1))) fNil)) fNil))) (sSeq (sSet 2 (fComp (fItemsR (fVar 1)) (gN 3) fYes (fTup (fCons (fC (.str "look")) (fCons (fVar 3) fNil))) [3])) (sRet (fOp addP (fVar 2) (fCompN (fItemsR (fVar 1)) (gN 3) fYes (bdC (fItemsR (fVar 1)) (gN 4) (fB (fOp neP (fVar 3) (fVar 4))) (bdC (fRange rng2P (fCons (fC (.int 1)) (fCons (fC (.int 4)) fNil))) (gN 5) fYes (bdE (fTup (fCons (fC (.str "move")) (fCons (fVar 3) (fCons (fVar 4) (fCons (fVar 5) fNil)))))) [5]) [4, 5]) [3, 4, 5])))))
def m_bank_calls : List Vl → M Vl := mDef 6 b_bank_calls
theorem sc_table_calls : FnScope ["thing", "c"] ["thing"] (defScope s_table_calls) := ⟨rfl, rfl, rfl, by decide +kernel, rfl, by decide +kernel, by decide +kernel⟩
def b_table_calls : SM := (sRet (fComp (fRange rng1P (fCons (fCall lenP (fCons (fOp ixP (fOp ixP (fVar 0) (fC (.int 1))) (fC (.int 0))) fNil)) fNil)) (gN 1) fYes (fTup (fCons (fC (.str "do")) (fCons (fVar 1) fNil))) [1]))
def m_table_calls : List Vl → M Vl := mDef 2 b_table_calls
theorem sc_call_rows : FnScope ["thing", "action"] ["thing"] (defScope s_call_rows) := ⟨rfl, rfl, rfl, by decide +kernel, rfl, by decide +kernel, by decide +kernel⟩
def b_call_rows : SM := (sSeq (sSet 1 (fTab tab_CALLS (fOp ixP (fVar 0) (fC (.int 0))))) (sRet (fCallV 1 [("_counter_calls", 1, m_counter_calls), ("_register_calls", 1, m_register_calls), ("_stack_calls", 1, m_stack_calls), ("_queue_calls", 1, m_queue_calls), ("_set_calls", 1, m_set_calls), ("_agree_calls", 1, m_agree_calls), ("_bank_calls", 1, m_bank_calls), ("_table_calls", 1, m_table_calls)] (fCons (fVar 0) fNil))))
def m_call_rows : List Vl → M Vl := mDef 2 b_call_rows
theorem sc_has_call : FnScope ["thing", "value", "call"] ["thing", "value"] (defScope s_has_call) := ⟨rfl, rfl, rfl, by decide +kernel, rfl, by decide +kernel, by decide +kernel⟩
def b_has_call : SM := (sRet (fCall anyP (fCons (fComp (fItems (fDef 1 m_call_rows (fCons (fVar 0) fNil))) (gN 2) fYes (fDef 2 (m_same 6) (fCons (fVar 2) (fCons (fVar 1) fNil))) [2]) fNil)))
def m_has_call : List Vl → M Vl := mDef 3 b_has_call
theorem sc_is_thread : FnScope ["value"] ["value"] (defScope s_is_thread) := ⟨rfl, rfl, rfl, by decide +kernel, rfl, by decide +kernel, by decide +kernel⟩
def b_is_thread : SM := (sRet (fDef 3 m_is_within (fCons (fVar 0) (fCons (fC (.int 0)) (fCons (fOp subP (fC (.int 4)) (fC (.int 1))) fNil)))))
def m_is_thread : List Vl → M Vl := mDef 1 b_is_thread
theorem sc_is_answer : FnScope ["value"] ["value"] (defScope s_is_answer) := ⟨rfl, rfl, rfl, by decide +kernel, rfl, by decide +kernel, by decide +kernel⟩
def b_is_answer : SM := (sRet (fOrV (fOp isP (fVar 0) (fC .none)) (fUn (isiP .int) (fVar 0))))
def m_is_answer : List Vl → M Vl := mDef 1 b_is_answer
theorem sc_can_come : FnScope ["things", "places", "event", "word", "thread", "place", "told"] ["things", "places", "event"] (defScope s_can_come) := ⟨rfl, rfl, rfl, by decide +kernel, rfl, by decide +kernel, by decide +kernel⟩
def b_can_come : SM := (sSeq (sIf (fOr (fNot (fB (fUn (isiP .tup) (fVar 2)))) (fB (fOp neP (fCall lenP (fCons (fVar 2) fNil)) (fC (.int 4))))) (sRet (fC (.bool false))) sPass) (sSeq (sAsg (gT 4 (gsCons (gN 3) (gsCons (gN 4) (gsCons (gN 5) (gsCons (gN 6) gsNil))))) (fVar 2)) (sSeq (sIf (fOr (fNot (fB (fDef 1 m_is_thread (fCons (fVar 4) fNil)))) (fNot (fB (fDef 3 m_is_within (fCons (fVar 5) (fCons (fC (.int 0)) (fCons (fOp subP (fCall lenP (fCons (fVar 0) fNil)) (fC (.int 1))) fNil))))))) (sRet (fC (.bool false))) sPass) (sSeq (sIf (fB (fDef 2 (m_same 6) (fCons (fVar 3) (fCons (fC (.str "call")) fNil)))) (sRet (fAndV (fDIn true (fVar 4) (fVar 1)) (fDef 2 m_has_call (fCons (fOp ixP (fVar 0) (fVar 5)) (fCons (fVar 6) fNil))))) sPass) (sRet (fAndV (fDef 2 (m_same 6) (fCons (fVar 3) (fCons (fC (.str "answer")) fNil))) (fAndV (fDIn false (fVar 4) (fVar 1)) (fAndV (fOp eqP (fDGet (fVar 1) (fVar 4)) (fVar 5)) (fDef 1 m_is_answer (fCons (fVar 6) fNil))))))))))
def m_can_come : List Vl → M Vl := mDef 7 b_can_come
theorem sc_wrong_place : FnScope ["things", "wide", "places", "at", "event"] ["things", "wide"] (defScope s_wrong_place) := ⟨rfl, rfl, rfl, by decide +kernel, rfl, by decide +kernel, by decide +kernel⟩
def b_wrong_place : SM := (sSeq (sSet 2 fK0) (sSeq (sForM 200 (fEnumR (fCons (fVar 1) fNil)) (gT 2 (gsCons (gN 3) (gsCons (gN 4) gsNil))) (sSeq (sIf (fOr (fB (fOp eqP (fVar 3) (fC (.int 24)))) (fNot (fB (fDef 3 m_can_come (fCons (fVar 0) (fCons (fVar 2) (fCons (fVar 4) fNil))))))) (sRet (fVar 3)) sPass) (sIf (fB (fOp eqP (fOp ixP (fVar 4) (fC (.int 0))) (fC (.str "call")))) (sExpr (fDSet (fOp ixP (fVar 4) (fC (.int 2))) (fVar 2) (fOp ixP (fVar 4) (fC (.int 1))))) (sExpr (sDel (fVar 2) (fOp ixP (fVar 4) (fC (.int 1)))))))) (sRet (fC .none))))
def m_wrong_place : List Vl → M Vl := mDef 5 b_wrong_place
theorem sc_has_wide_history : FnScope ["things", "value"] ["things", "value"] (defScope s_has_wide_history) := ⟨rfl, rfl, rfl, by decide +kernel, rfl, by decide +kernel, by decide +kernel⟩
def b_has_wide_history : SM := (sRet (fAndV (fUn (isiP .tup) (fVar 1)) (fOp isP (fDef 2 m_wrong_place (fCons (fVar 0) (fCons (fVar 1) fNil))) (fC .none))))
def m_has_wide_history : List Vl → M Vl := mDef 2 b_has_wide_history
theorem sc_has_size : FnScope ["value"] ["value"] (defScope s_has_size) := ⟨rfl, rfl, rfl, by decide +kernel, rfl, by decide +kernel, by decide +kernel⟩
def b_has_size : SM := (sRet (fAndV (fOp eqP (fCall lenP (fCons (fVar 0) fNil)) (fC (.int 2))) (fDef 3 m_is_within (fCons (fOp ixP (fVar 0) (fC (.int 1))) (fCons (fC (.int 2)) (fCons (fC (.int 5)) fNil))))))
def m_has_size : List Vl → M Vl := mDef 1 b_has_size
theorem sc_has_room_and_size : FnScope ["value"] ["value"] (defScope s_has_room_and_size) := ⟨rfl, rfl, rfl, by decide +kernel, rfl, by decide +kernel, by decide +kernel⟩
def b_has_room_and_size : SM := (sRet (fAndV (fOp eqP (fCall lenP (fCons (fVar 0) fNil)) (fC (.int 3))) (fAndV (fDef 3 m_is_within (fCons (fOp ixP (fVar 0) (fC (.int 1))) (fCons (fC (.int 1)) (fCons (fC (.int 3)) fNil)))) (fDef 3 m_is_within (fCons (fOp ixP (fVar 0) (fC (.int 2))) (fCons (fC (.int 1)) (fCons (fC (.int 3)) fNil)))))))
def m_has_room_and_size : List Vl → M Vl := mDef 1 b_has_room_and_size
theorem sc_are_within : FnScope ["value", "low", "high", "part"] ["value", "low", "high"] (defScope s_are_within) := ⟨rfl, rfl, rfl, by decide +kernel, rfl, by decide +kernel, by decide +kernel⟩
def b_are_within : SM := (sRet (fAndV (fUn (isiP .tup) (fVar 0)) (fCall allP (fCons (fComp (fItems (fVar 0)) (gN 3) fYes (fDef 3 m_is_within (fCons (fVar 3) (fCons (fVar 1) (fCons (fVar 2) fNil)))) [3]) fNil))))
def m_are_within : List Vl → M Vl := mDef 4 b_are_within
theorem sc_has_amounts : FnScope ["value"] ["value"] (defScope s_has_amounts) := ⟨rfl, rfl, rfl, by decide +kernel, rfl, by decide +kernel, by decide +kernel⟩
def b_has_amounts : SM := (sRet (fAndV (fOp eqP (fCall lenP (fCons (fVar 0) fNil)) (fC (.int 2))) (fAndV (fDef 3 m_are_within (fCons (fOp ixP (fVar 0) (fC (.int 1))) (fCons (fC (.int 0)) (fCons (fC (.int 5)) fNil)))) (fChain leP leP (fC (.int 2)) (fCall lenP (fCons (fOp ixP (fVar 0) (fC (.int 1))) fNil)) (fC (.int 3))))))
def m_has_amounts : List Vl → M Vl := mDef 1 b_has_amounts
theorem sc_is_pair : FnScope ["value", "many"] ["value", "many"] (defScope s_is_pair) := ⟨rfl, rfl, rfl, by decide +kernel, rfl, by decide +kernel, by decide +kernel⟩
def b_is_pair : SM := (sSeq (sIf (fOr (fNot (fB (fUn (isiP .tup) (fVar 0)))) (fB (fOp neP (fCall lenP (fCons (fVar 0) fNil)) (fC (.int 2))))) (sRet (fC (.bool false))) sPass) (sRet (fAndV (fDef 3 m_is_within (fCons (fOp ixP (fVar 0) (fC (.int 0))) (fCons (fC (.int 0)) (fCons (fOp subP (fVar 1) (fC (.int 1))) fNil)))) (fDef 3 m_is_within (fCons (fOp ixP (fVar 0) (fC (.int 1))) (fCons (fC (.int 0)) (fCons (fC (.int 9)) fNil)))))))
def m_is_pair : List Vl → M Vl := mDef 2 b_is_pair
theorem sc_is_row : FnScope ["value", "many", "pair"] ["value", "many"] (defScope s_is_row) := ⟨rfl, rfl, rfl, by decide +kernel, rfl, by decide +kernel, by decide +kernel⟩
def b_is_row : SM := (sSeq (sIf (fOr (fNot (fB (fUn (isiP .tup) (fVar 0)))) (fNot (fB (fChain leP leP (fC (.int 1)) (fCall lenP (fCons (fVar 0) fNil)) (fC (.int 4)))))) (sRet (fC (.bool false))) sPass) (sRet (fCall allP (fCons (fComp (fItems (fVar 0)) (gN 2) fYes (fDef 2 m_is_pair (fCons (fVar 2) (fCons (fVar 1) fNil))) [2]) fNil))))
def m_is_row : List Vl → M Vl := mDef 3 b_is_row
theorem sc_has_rows : FnScope ["value", "rows", "row"] ["value"] (defScope s_has_rows) := ⟨rfl, rfl, rfl, by decide +kernel, rfl, by decide +kernel, by decide +kernel⟩
def b_has_rows : SM := (sSeq (sIf (fOr (fB (fOp neP (fCall lenP (fCons (fVar 0) fNil)) (fC (.int 2)))) (fNot (fB (fUn (isiP .tup) (fOp ixP (fVar 0) (fC (.int 1))))))) (sRet (fC (.bool false))) sPass) (sSeq (sSet 1 (fOp ixP (fVar 0) (fC (.int 1)))) (sSeq (sIf (fOr (fNot (fB (fChain leP leP (fC (.int 1)) (fCall lenP (fCons (fVar 1) fNil)) (fC (.int 6))))) (fNot (fB (fCall allP (fCons (fComp (fItems (fVar 1)) (gN 2) fYes (fDef 2 m_is_row (fCons (fVar 2) (fCons (fCall lenP (fCons (fVar 1) fNil)) fNil))) [2]) fNil))))) (sRet (fC (.bool false))) sPass) (sRet (fCall allP (fCons (fComp (fItems (fVar 1)) (gN 2) fYes (fOp eqP (fCall lenP (fCons (fVar 2) fNil)) (fCall lenP (fCons (fOp ixP (fVar 1) (fC (.int 0))) fNil))) [2]) fNil))))))
def m_has_rows : List Vl → M Vl := mDef 3 b_has_rows
theorem sc_has_form : FnScope ["value", "form"] ["value"] (defScope s_has_form) := ⟨rfl, rfl, rfl, by decide +kernel, rfl, by decide +kernel, by decide +kernel⟩
def b_has_form : SM := (sSeq (sIf (fOr (fNot (fB (fUn (isiP .tup) (fVar 0)))) (fOr (fB (fOp eqP (fCall lenP (fCons (fVar 0) fNil)) (fC (.int 0)))) (fNot (fB (fUn (isiP .str) (fOp ixP (fVar 0) (fC (.int 0)))))))) (sRet (fC (.bool false))) sPass) (sSeq (sIf (fB (fInTab true tab_FORMS (fOp ixP (fVar 0) (fC (.int 0))))) (sRet (fC (.bool false))) sPass) (sSeq (sSet 1 (fTab tab_FORMS (fOp ixP (fVar 0) (fC (.int 0))))) (sRet (fCallV 1 [("_has_size", 1, m_has_size), ("_has_room_and_size", 1, m_has_room_and_size), ("_has_amounts", 1, m_has_amounts), ("_has_rows", 1, m_has_rows)] (fCons (fVar 0) fNil))))))
def m_has_form : List Vl → M Vl := mDef 2 b_has_form
theorem sc_check_object : FnScope ["value"] ["value"] (defScope s_check_object) := ⟨rfl, rfl, rfl, by decide +kernel, rfl, by decide +kernel, by decide +kernel⟩
def b_check_object : SM := (sIf (fNot (fB (fDef 1 m_has_form (fCons (fVar 0) fNil)))) sFail sPass)
def m_check_object : List Vl → M Vl := mDef 1 b_check_object
theorem sc_check_things : FnScope ["value", "thing"] ["value"] (defScope s_check_things) := ⟨rfl, rfl, rfl, by decide +kernel, rfl, by decide +kernel, by decide +kernel⟩
def b_check_things : SM := (sSeq (sIf (fOr (fNot (fB (fUn (isiP .tup) (fVar 0)))) (fNot (fB (fChain leP leP (fC (.int 1)) (fCall lenP (fCons (fVar 0) fNil)) (fC (.int 3)))))) sFail sPass) (sFor (fItems (fVar 0)) (gN 1) (sExpr (fDef 1 m_check_object (fCons (fVar 1) fNil)))))
def m_check_things : List Vl → M Vl := mDef 2 b_check_things
theorem sc_is_wide_history : FnScope ["things", "value"] ["things", "value"] (defScope s_is_wide_history) := ⟨rfl, rfl, rfl, by decide +kernel, rfl, by decide +kernel, by decide +kernel⟩
def b_is_wide_history : SM := (sSeq (sExpr (fDef 1 m_check_things (fCons (fVar 0) fNil))) (sRet (fDef 2 m_has_wide_history (fCons (fVar 0) (fCons (fVar 1) fNil)))))
def m_is_wide_history : List Vl → M Vl := mDef 2 b_is_wide_history
theorem sc_check_wide_history : FnScope ["things", "value", "at"] ["things", "value"] (defScope s_check_wide_history) := ⟨rfl, rfl, rfl, by decide +kernel, rfl, by decide +kernel, by decide +kernel⟩
def b_check_wide_history : SM := (sSeq (sIf (fNot (fB (fUn (isiP .tup) (fVar 1)))) sFail sPass) (sSeq (sSet 2 (fDef 2 m_wrong_place (fCons (fVar 0) (fCons (fVar 1) fNil)))) (sIf (fB (fOp isNotP (fVar 2) (fC .none))) sFail sPass)))
def m_check_wide_history : List Vl → M Vl := mDef 3 b_check_wide_history
theorem sc_check : FnScope ["things", "history"] ["things", "history"] (defScope s_check) := ⟨rfl, rfl, rfl, by decide +kernel, rfl, by decide +kernel, by decide +kernel⟩
def b_check : SM := (sSeq (sExpr (fDef 1 m_check_things (fCons (fVar 0) fNil))) (sExpr (fDef 2 m_check_wide_history (fCons (fVar 0) (fCons (fVar 1) fNil)))))
def m_check : List Vl → M Vl := mDef 2 b_check
theorem sc_narrowed : FnScope ["wide", "place", "event"] ["wide", "place"] (defScope s_narrowed) := ⟨rfl, rfl, rfl, by decide +kernel, rfl, by decide +kernel, by decide +kernel⟩
def b_narrowed : SM := (sRet (fCall tupleP (fCons (fComp (fItems (fVar 0)) (gN 2) (fB (fOp eqP (fOp ixP (fVar 2) (fC (.int 2))) (fVar 1))) (fOp addP (fSl (fVar 2) oN (oI (fC (.int 2)))) (fSl (fVar 2) (oI (fC (.int 3))) oN)) [2]) fNil)))
def m_narrowed : List Vl → M Vl := mDef 3 b_narrowed
theorem sc_all_parts : FnScope ["things", "history", "place"] ["things", "history"] (defScope s_all_parts) := ⟨rfl, rfl, rfl, by decide +kernel, rfl, by decide +kernel, by decide +kernel⟩
def b_all_parts : SM := (sRet (fCall tupleP (fCons (fComp (fRange rng1P (fCons (fCall lenP (fCons (fVar 0) fNil)) fNil)) (gN 2) fYes (fDef 2 m_narrowed (fCons (fVar 1) (fCons (fVar 2) fNil))) [2]) fNil)))
def m_all_parts : List Vl → M Vl := mDef 3 b_all_parts
theorem sc_parts : FnScope ["things", "history"] ["things", "history"] (defScope s_parts) := ⟨rfl, rfl, rfl, by decide +kernel, rfl, by decide +kernel, by decide +kernel⟩
def b_parts : SM := (sSeq (sExpr (fDef 2 m_check (fCons (fVar 0) (fCons (fVar 1) fNil)))) (sRet (fDef 2 m_all_parts (fCons (fVar 0) (fCons (fVar 1) fNil)))))
def m_parts : List Vl → M Vl := mDef 2 b_parts
theorem sc_widened_event : FnScope ["event"] ["event"] (defScope s_widened_event) := ⟨rfl, rfl, rfl, by decide +kernel, rfl, by decide +kernel, by decide +kernel⟩
def b_widened_event : SM := (sSeq (sIf (fNot (fB (fUn (isiP .tup) (fVar 0)))) (sRet (fVar 0)) sPass) (sRet (fOp addP (fOp addP (fSl (fVar 0) oN (oI (fC (.int 2)))) (fTup (fCons (fC (.int 0)) fNil))) (fSl (fVar 0) (oI (fC (.int 2))) oN))))
def m_widened_event : List Vl → M Vl := mDef 1 b_widened_event
theorem sc_widened : FnScope ["history", "event"] ["history"] (defScope s_widened) := ⟨rfl, rfl, rfl, by decide +kernel, rfl, by decide +kernel, by decide +kernel⟩
def b_widened : SM := (sRet (fCall tupleP (fCons (fComp (fItems (fVar 0)) (gN 1) fYes (fDef 1 m_widened_event (fCons (fVar 1) fNil)) [1]) fNil)))
def m_widened : List Vl → M Vl := mDef 2 b_widened
theorem sc_Span_init : FnScope ["self", "thread", "place", "call", "begin"] ["self", "thread", "place", "call", "begin"] (defScope s_Span_init) := ⟨rfl, rfl, rfl, by decide +kernel, rfl, by decide +kernel, by decide +kernel⟩
def b_Span_init : SM := (sSeq (sExpr (sFldP "Span" "thread" (fVar 0) (fVar 1))) (sSeq (sExpr (sFldP "Span" "place" (fVar 0) (fVar 2))) (sSeq (sExpr (sFldP "Span" "call" (fVar 0) (fVar 3))) (sSeq (sExpr (sFldP "Span" "begin" (fVar 0) (fVar 4))) (sSeq (sExpr (sFldP "Span" "end" (fVar 0) (fC .none))) (sExpr (sFldP "Span" "answer" (fVar 0) (fC .none))))))))
def m_Span_init : List Vl → M Vl := mDefK 5 b_Span_init
theorem sc_spans_in : FnScope ["wide", "found", "latest", "at", "word", "thread", "place", "told", "span"] ["wide"] (defScope s_spans_in) := ⟨rfl, rfl, rfl, by decide +kernel, rfl, by decide +kernel, by decide +kernel⟩
def b_spans_in : SM := (sSeq (sSet 1 (fMutQ fNil)) (sSeq (sSet 2 fW0) (sSeq (sForM 200 (fEnumR (fCons (fVar 0) fNil)) (gT 2 (gsCons (gN 3) (gsCons (gT 4 (gsCons (gN 4) (gsCons (gN 5) (gsCons (gN 6) (gsCons (gN 7) gsNil))))) gsNil))) (sIf (fB (fOp eqP (fVar 4) (fC (.str "call")))) (sSeq (sExpr (fWSet (fNew "Span" 5 m_Span_init (fCons (fVar 5) (fCons (fVar 6) (fCons (fVar 7) (fCons (fVar 3) fNil))))) (fVar 2) (fVar 5))) (sExpr (fAppendQ (fVar 1) (fWGet (fVar 2) (fVar 5))))) (sSeq (sSet 8 (fWGet (fVar 2) (fVar 5))) (sSeq (sExpr (sFldP "Span" "end" (fVar 8) (fVar 3))) (sExpr (sFldP "Span" "answer" (fVar 8) (fVar 7))))))) (sRet (fVar 1)))))
def m_spans_in : List Vl → M Vl := mDefK 9 b_spans_in
theorem sc_is_ahead : FnScope ["one", "other"] ["one", "other"] (defScope s_is_ahead) := ⟨rfl, rfl, rfl, by decide +kernel, rfl, by decide +kernel, by decide +kernel⟩
def b_is_ahead : SM := (sRet (fAndV (fOp isNotP (fFld "Span" "end" (fVar 0)) (fC .none)) (fOp ltP (fFld "Span" "end" (fVar 0)) (fFld "Span" "begin" (fVar 1)))))
def m_is_ahead : List Vl → M Vl := mDef 2 b_is_ahead
theorem sc_ahead_of_each : FnScope ["spans", "span", "at", "other"] ["spans"] (defScope s_ahead_of_each) := ⟨rfl, rfl, rfl, by decide +kernel, rfl, by decide +kernel, by decide +kernel⟩
def b_ahead_of_each : SM := (sRet (fCompM .fr 200 (fRead (fVar 0)) (gN 1) fYes (fCall sumP (fCons (fCompM .fr 200 (fEnumR (fCons (fVar 0) fNil)) (gT 2 (gsCons (gN 2) (gsCons (gN 3) gsNil))) (fB (fDef 2 m_is_ahead (fCons (fVar 3) (fCons (fVar 1) fNil)))) (fOp shlP (fC (.int 1)) (fVar 2)) [2, 3]) fNil)) [1]))
def m_ahead_of_each : List Vl → M Vl := mDef 4 b_ahead_of_each
theorem sc_ended : FnScope ["spans", "at", "span"] ["spans"] (defScope s_ended) := ⟨rfl, rfl, rfl, by decide +kernel, rfl, by decide +kernel, by decide +kernel⟩
def b_ended : SM := (sRet (fCall sumP (fCons (fCompM .fr 200 (fEnumR (fCons (fVar 0) fNil)) (gT 2 (gsCons (gN 1) (gsCons (gN 2) gsNil))) (fB (fOp isNotP (fFld "Span" "end" (fVar 2)) (fC .none))) (fOp shlP (fC (.int 1)) (fVar 1)) [1, 2]) fNil)))
def m_ended : List Vl → M Vl := mDef 3 b_ended
theorem sc_start : FnScope ["thing"] ["thing"] (defScope s_start) := ⟨rfl, rfl, rfl, by decide +kernel, rfl, by decide +kernel, by decide +kernel⟩
def b_start : SM := (sSeq (sIf (fB (fOp eqP (fOp ixP (fVar 0) (fC (.int 0))) (fC (.str "agree")))) (sRet (fC .none)) sPass) (sSeq (sIf (fB (fOp eqP (fOp ixP (fVar 0) (fC (.int 0))) (fC (.str "bank")))) (sRet (fOp ixP (fVar 0) (fC (.int 1)))) sPass) (sSeq (sIf (fB (fOp (inP false) (fOp ixP (fVar 0) (fC (.int 0))) (fTup (fCons (fC (.str "stack")) (fCons (fC (.str "queue")) (fCons (fC (.str "set")) fNil)))))) (sRet (fTup fNil)) sPass) (sRet (fC (.int 0))))))
def m_start : List Vl → M Vl := mDef 1 b_start
theorem sc_starts : FnScope ["things", "thing"] ["things"] (defScope s_starts) := ⟨rfl, rfl, rfl, by decide +kernel, rfl, by decide +kernel, by decide +kernel⟩
def b_starts : SM := (sRet (fCall tupleP (fCons (fComp (fItems (fVar 0)) (gN 1) fYes (fDef 1 m_start (fCons (fVar 1) fNil)) [1]) fNil)))
def m_starts : List Vl → M Vl := mDef 2 b_starts
theorem sc_counter_step : FnScope ["thing", "state", "call"] ["thing", "state", "call"] (defScope s_counter_step) := ⟨rfl, rfl, rfl, by decide +kernel, rfl, by decide +kernel, by decide +kernel⟩
def b_counter_step : SM := (sSeq (sIf (fB (fOp eqP (fOp ixP (fVar 2) (fC (.int 0))) (fC (.str "look")))) (sRet (fTup (fCons (fVar 1) (fCons (fVar 1) fNil)))) sPass) (sRet (fTup (fCons (fOp modP (fOp addP (fVar 1) (fOp ixP (fVar 2) (fC (.int 1)))) (fOp ixP (fVar 0) (fC (.int 1)))) (fCons (fVar 1) fNil)))))
def m_counter_step : List Vl → M Vl := mDef 3 b_counter_step
theorem sc_register_step : FnScope ["thing", "state", "call"] ["thing", "state", "call"] (defScope s_register_step) := ⟨rfl, rfl, rfl, by decide +kernel, rfl, by decide +kernel, by decide +kernel⟩
def b_register_step : SM := (sSeq (sIf (fB (fOp eqP (fOp ixP (fVar 2) (fC (.int 0))) (fC (.str "look")))) (sRet (fTup (fCons (fVar 1) (fCons (fVar 1) fNil)))) sPass) (sSeq (sIf (fB (fOp eqP (fOp ixP (fVar 2) (fC (.int 0))) (fC (.str "put")))) (sRet (fTup (fCons (fOp ixP (fVar 2) (fC (.int 1))) (fCons (fC .none) fNil)))) sPass) (sRet (fTup (fCons (fOp ixP (fVar 2) (fC (.int 1))) (fCons (fVar 1) fNil))))))
def m_register_step : List Vl → M Vl := mDef 3 b_register_step
theorem sc_put_at_end : FnScope ["thing", "state", "k"] ["thing", "state", "k"] (defScope s_put_at_end) := ⟨rfl, rfl, rfl, by decide +kernel, rfl, by decide +kernel, by decide +kernel⟩
def b_put_at_end : SM := (sSeq (sIf (fB (fOp eqP (fCall lenP (fCons (fVar 1) fNil)) (fOp ixP (fVar 0) (fC (.int 1))))) (sRet (fTup (fCons (fVar 1) (fCons (fC (.bool false)) fNil)))) sPass) (sRet (fTup (fCons (fOp addP (fVar 1) (fTup (fCons (fVar 2) fNil))) (fCons (fC (.bool true)) fNil)))))
def m_put_at_end : List Vl → M Vl := mDef 3 b_put_at_end
theorem sc_stack_step : FnScope ["thing", "state", "call"] ["thing", "state", "call"] (defScope s_stack_step) := ⟨rfl, rfl, rfl, by decide +kernel, rfl, by decide +kernel, by decide +kernel⟩
def b_stack_step : SM := (sSeq (sIf (fB (fOp eqP (fOp ixP (fVar 2) (fC (.int 0))) (fC (.str "push")))) (sRet (fDef 3 m_put_at_end (fCons (fVar 0) (fCons (fVar 1) (fCons (fOp ixP (fVar 2) (fC (.int 1))) fNil))))) sPass) (sSeq (sIf (fB (fOp eqP (fCall lenP (fCons (fVar 1) fNil)) (fC (.int 0)))) (sRet (fTup (fCons (fVar 1) (fCons (fC .none) fNil)))) sPass) (sRet (fTup (fCons (fSl (fVar 1) oN (oI (fUn negP (fC (.int 1))))) (fCons (fOp ixP (fVar 1) (fUn negP (fC (.int 1)))) fNil))))))
def m_stack_step : List Vl → M Vl := mDef 3 b_stack_step
theorem sc_queue_step : FnScope ["thing", "state", "call"] ["thing", "state", "call"] (defScope s_queue_step) := ⟨rfl, rfl, rfl, by decide +kernel, rfl, by decide +kernel, by decide +kernel⟩
def b_queue_step : SM := (sSeq (sIf (fB (fOp eqP (fOp ixP (fVar 2) (fC (.int 0))) (fC (.str "enter")))) (sRet (fDef 3 m_put_at_end (fCons (fVar 0) (fCons (fVar 1) (fCons (fOp ixP (fVar 2) (fC (.int 1))) fNil))))) sPass) (sSeq (sIf (fB (fOp eqP (fCall lenP (fCons (fVar 1) fNil)) (fC (.int 0)))) (sRet (fTup (fCons (fVar 1) (fCons (fC .none) fNil)))) sPass) (sRet (fTup (fCons (fSl (fVar 1) (oI (fC (.int 1))) oN) (fCons (fOp ixP (fVar 1) (fC (.int 0))) fNil))))))
def m_queue_step : List Vl → M Vl := mDef 3 b_queue_step
theorem sc_set_step : FnScope ["thing", "state", "call", "held", "others", "word", "k", "member"] ["thing", "state", "call"] (defScope s_set_step) := ⟨rfl, rfl, rfl, by decide +kernel, rfl, by decide +kernel, by decide +kernel⟩
def b_set_step : SM := (sSeq (sAsg (gT 2 (gsCons (gN 5) (gsCons (gN 6) gsNil))) (fVar 2)) (sSeq (sSet 3 (fOp (inP false) (fVar 6) (fVar 1))) (sSeq (sIf (fB (fOp eqP (fVar 5) (fC (.str "has")))) (sRet (fTup (fCons (fVar 1) (fCons (fVar 3) fNil)))) sPass) (sSeq (sSet 4 (fComp (fItems (fVar 1)) (gN 7) (fB (fOp neP (fVar 7) (fVar 6))) (fVar 7) [7])) (sSeq (sIf (fB (fOp eqP (fVar 5) (fC (.str "drop")))) (sRet (fTup (fCons (fCall tupleP (fCons (fVar 4) fNil)) (fCons (fVar 3) fNil)))) sPass) (sRet (fTup (fCons (fCall tupleP (fCons (fCall sortedP (fCons (fOp addP (fVar 4) (fLst (fCons (fVar 6) fNil))) fNil)) fNil)) (fCons (fNotV (fVar 3)) fNil)))))))))
def m_set_step : List Vl → M Vl := mDef 8 b_set_step
theorem sc_agree_step : FnScope ["thing", "state", "call", "told"] ["thing", "state", "call"] (defScope s_agree_step) := ⟨rfl, rfl, rfl, by decide +kernel, rfl, by decide +kernel, by decide +kernel⟩
def b_agree_step : SM := (sSeq (sSet 3 (fIte (fB (fOp isP (fVar 1) (fC .none))) (fOp ixP (fVar 2) (fC (.int 1))) (fVar 1))) (sRet (fTup (fCons (fVar 3) (fCons (fVar 3) fNil)))))
def m_agree_step : List Vl → M Vl := mDef 4 b_agree_step
theorem sc_bank_step : FnScope ["thing", "state", "call", "amounts", "_", "giver", "taker", "many"] ["thing", "state", "call"] (defScope s_bank_step) := ⟨rfl, rfl, rfl, by decide +kernel, rfl, by decide +kernel, by decide +kernel⟩
def b_bank_step : SM := (sSeq (sIf (fB (fOp eqP (fOp ixP (fVar 2) (fC (.int 0))) (fC (.str "look")))) (sRet (fTup (fCons (fVar 1) (fCons (fOp ixP (fVar 1) (fOp ixP (fVar 2) (fC (.int 1)))) fNil)))) sPass) (sSeq (sAsg (gT 4 (gsCons (gN 4) (gsCons (gN 5) (gsCons (gN 6) (gsCons (gN 7) gsNil))))) (fVar 2)) (sSeq (sIf (fB (fOp ltP (fOp ixP (fVar 1) (fVar 5)) (fVar 7))) (sRet (fTup (fCons (fVar 1) (fCons (fC (.bool false)) fNil)))) sPass) (sSeq (sSet 3 (fMutL (fCons (fVar 1) fNil))) (sSeq (sExpr (fPutOp (fun x y => match x, y with | .int i, .int j => some (.int (i - j)) | _, _ => none) (fVar 3) (fVar 5) (fVar 7))) (sSeq (sExpr (fPutOp (fun x y => match x, y with | .int i, .int j => some (.int (i + j)) | _, _ => none) (fVar 3) (fVar 6) (fVar 7))) (sRet (fTup (fCons (fCall tupleP (fCons (fVar 3) fNil)) (fCons (fC (.bool true)) fNil))))))))))
def m_bank_step : List Vl → M Vl := mDef 8 b_bank_step
theorem sc_table_step : FnScope ["thing", "state", "call"] ["thing", "state", "call"] (defScope s_table_step) := ⟨rfl, rfl, rfl, by decide +kernel, rfl, by decide +kernel, by decide +kernel⟩
def b_table_step : SM := (sRet (fOp ixP (fOp ixP (fOp ixP (fVar 0) (fC (.int 1))) (fVar 1)) (fOp ixP (fVar 2) (fC (.int 1)))))
def m_table_step : List Vl → M Vl := mDef 3 b_table_step
theorem sc_step : FnScope ["thing", "state", "call", "action"] ["thing", "state", "call"] (defScope s_step) := ⟨rfl, rfl, rfl, by decide +kernel, rfl, by decide +kernel, by decide +kernel⟩
def b_step : SM := (sSeq (sSet 3 (fTab tab_STEPS (fOp ixP (fVar 0) (fC (.int 0))))) (sRet (fCallV 3 [("_counter_step", 3, m_counter_step), ("_register_step", 3, m_register_step), ("_stack_step", 3, m_stack_step), ("_queue_step", 3, m_queue_step), ("_set_step", 3, m_set_step), ("_agree_step", 3, m_agree_step), ("_bank_step", 3, m_bank_step), ("_table_step", 3, m_table_step)] (fCons (fVar 0) (fCons (fVar 1) (fCons (fVar 2) fNil))))))
def m_step : List Vl → M Vl := mDef 4 b_step
theorem sc_states_behind : FnScope ["things", "states", "span", "state", "answer"] ["things", "states", "span"] (defScope s_states_behind) := ⟨rfl, rfl, rfl, by decide +kernel, rfl, by decide +kernel, by decide +kernel⟩
def b_states_behind : SM := (sSeq (sAsg (gT 2 (gsCons (gN 3) (gsCons (gN 4) gsNil))) (fDef 3 m_step (fCons (fOp ixP (fVar 0) (fFld "Span" "place" (fVar 2))) (fCons (fOp ixP (fVar 1) (fFld "Span" "place" (fVar 2))) (fCons (fFld "Span" "call" (fVar 2)) fNil))))) (sSeq (sIf (fAnd (fB (fOp isNotP (fFld "Span" "end" (fVar 2)) (fC .none))) (fNot (fB (fDef 2 (m_same 6) (fCons (fVar 4) (fCons (fFld "Span" "answer" (fVar 2)) fNil)))))) (sRet (fC .none)) sPass) (sRet (fOp addP (fOp addP (fSl (fVar 1) oN (oI (fFld "Span" "place" (fVar 2)))) (fTup (fCons (fVar 3) fNil))) (fSl (fVar 1) (oI (fOp addP (fFld "Span" "place" (fVar 2)) (fC (.int 1)))) oN)))))
def m_states_behind : List Vl → M Vl := mDef 5 b_states_behind
theorem sc_can_stand : FnScope ["held", "needed", "at"] ["held", "needed", "at"] (defScope s_can_stand) := ⟨rfl, rfl, rfl, by decide +kernel, rfl, by decide +kernel, by decide +kernel⟩
def b_can_stand : SM := (sRet (fAndV (fOp eqP (fOp andP (fOp shrP (fVar 0) (fVar 2)) (fC (.int 1))) (fC (.int 0))) (fOp eqP (fOp andP (fVar 0) (fVar 1)) (fVar 1))))
def m_can_stand : List Vl → M Vl := mDef 3 b_can_stand
theorem sc_is_order : FnScope ["things", "spans", "needs", "value", "held", "states", "at", "ended"] ["things", "spans", "needs", "value"] (defScope s_is_order) := ⟨rfl, rfl, rfl, by decide +kernel, rfl, by decide +kernel, by decide +kernel⟩
def b_is_order : SM := (sSeq (sIf (fNot (fB (fDef 3 m_are_within (fCons (fVar 3) (fCons (fC (.int 0)) (fCons (fOp subP (fLenQ (fCons (fVar 1) fNil)) (fC (.int 1))) fNil)))))) (sRet (fC (.bool false))) sPass) (sSeq (sSet 4 (fC (.int 0))) (sSeq (sSet 5 (fDef 1 m_starts (fCons (fVar 0) fNil))) (sSeq (sFor (fItems (fVar 3)) (gN 6) (sSeq (sIf (fNot (fB (fDef 3 m_can_stand (fCons (fVar 4) (fCons (fOp ixP (fVar 2) (fVar 6)) (fCons (fVar 6) fNil)))))) (sRet (fC (.bool false))) sPass) (sSeq (sSet 5 (fDef 3 m_states_behind (fCons (fVar 0) (fCons (fVar 5) (fCons (fIxQ (fVar 1) (fVar 6)) fNil))))) (sSeq (sIf (fB (fOp isP (fVar 5) (fC .none))) (sRet (fC (.bool false))) sPass) (sSet 4 (fOp orP (fVar 4) (fOp shlP (fC (.int 1)) (fVar 6)))))))) (sSeq (sSet 7 (fDef 1 m_ended (fCons (fVar 1) fNil))) (sRet (fOp eqP (fOp andP (fVar 4) (fVar 7)) (fVar 7))))))))
def m_is_order : List Vl → M Vl := mDef 8 b_is_order
theorem sc_numbers : FnScope ["spans", "place", "order", "own", "at", "span"] ["spans", "place", "order"] (defScope s_numbers) := ⟨rfl, rfl, rfl, by decide +kernel, rfl, by decide +kernel, by decide +kernel⟩
def b_numbers : SM := (sSeq (sSet 3 (fCompM .fr 200 (fEnumR (fCons (fVar 0) fNil)) (gT 2 (gsCons (gN 4) (gsCons (gN 5) gsNil))) (fB (fOp eqP (fFld "Span" "place" (fVar 5)) (fVar 1))) (fVar 4) [4, 5])) (sRet (fCompM .lv 200 (fRdr (fItems (fVar 2))) (gN 4) fYes (fOp ixP (fVar 3) (fVar 4)) [4])))
def m_numbers : List Vl → M Vl := mDefK 6 b_numbers
theorem sc_weave : FnScope ["things", "spans", "orders", "needs", "rows", "taken", "held", "ready", "at", "place", "row"] ["things", "spans", "orders"] (defScope s_weave) := ⟨rfl, rfl, rfl, by decide +kernel, rfl, by decide +kernel, by decide +kernel⟩
def b_weave : SM := (sSeq (sSet 3 (fDef 1 m_ahead_of_each (fCons (fVar 1) fNil))) (sSeq (sSet 4 (fCompM .lq 200 (fRdr (fRange rng1P (fCons (fCall lenP (fCons (fVar 0) fNil)) fNil))) (gN 9) fYes (fDef 3 m_numbers (fCons (fVar 1) (fCons (fVar 9) (fCons (fOp ixP (fVar 2) (fVar 9)) fNil)))) [9])) (sSeq (sSet 5 (fMut fNil)) (sSeq (sSet 6 (fC (.int 0))) (sSeq (sWhile (fB (fCall anyP (fCons (fCompM .fr 200 (fRead (fVar 4)) (gN 10) fYes (fOp gtP (fCall lenP (fCons (fVar 10) fNil)) (fC (.int 0))) [10]) fNil))) (sSeq (sSet 7 (fCompM .lq 200 (fRead (fVar 4)) (gN 10) (fAnd (fB (fOp gtP (fCall lenP (fCons (fVar 10) fNil)) (fC (.int 0)))) (fB (fOp eqP (fOp andP (fVar 6) (fOp ixP (fVar 3) (fOp ixP (fVar 10) (fC (.int 0))))) (fOp ixP (fVar 3) (fOp ixP (fVar 10) (fC (.int 0))))))) (fVar 10) [10])) (sSeq (sSet 8 (fPopAt (fIxQ (fVar 7) (fC (.int 0))) (fC (.int 0)))) (sSeq (sExpr (fAppend (fVar 5) (fVar 8))) (sSet 6 (fOp orP (fVar 6) (fOp shlP (fC (.int 1)) (fVar 8))))))) 1000) (sRet (fCall tupleP (fCons (fVar 5) fNil))))))))
def m_weave : List Vl → M Vl := mDef 11 b_weave
theorem sc_woven : FnScope ["things", "history", "orders", "thing", "part", "order", "spans"] ["things", "history", "orders"] (defScope s_woven) := ⟨rfl, rfl, rfl, by decide +kernel, rfl, by decide +kernel, by decide +kernel⟩
def b_woven : SM := (sSeq (sExpr (fDef 2 m_check (fCons (fVar 0) (fCons (fVar 1) fNil)))) (sSeq (sIf (fOr (fNot (fB (fUn (isiP .tup) (fVar 2)))) (fB (fOp neP (fCall lenP (fCons (fVar 2) fNil)) (fCall lenP (fCons (fVar 0) fNil))))) sFail sPass) (sSeq (sFor (fZip3 (fCons (fVar 0) (fCons (fDef 2 m_all_parts (fCons (fVar 0) (fCons (fVar 1) fNil))) (fCons (fVar 2) fNil)))) (gT 3 (gsCons (gN 3) (gsCons (gN 4) (gsCons (gN 5) gsNil)))) (sSeq (sSet 6 (fDef 1 m_spans_in (fCons (fDef 1 m_widened (fCons (fVar 4) fNil)) fNil))) (sIf (fNot (fB (fDef 4 m_is_order (fCons (fTup (fCons (fVar 3) fNil)) (fCons (fVar 6) (fCons (fDef 1 m_ahead_of_each (fCons (fVar 6) fNil)) (fCons (fVar 5) fNil))))))) sFail sPass))) (sRet (fDef 3 m_weave (fCons (fVar 0) (fCons (fDef 1 m_spans_in (fCons (fVar 1) fNil)) (fCons (fVar 2) fNil))))))))
def m_woven : List Vl → M Vl := mDef 7 b_woven
theorem sc_following : FnScope ["things", "spans", "needs", "node", "found", "held", "states", "at", "span", "behind"] ["things", "spans", "needs", "node"] (defScope s_following) := ⟨rfl, rfl, rfl, by decide +kernel, rfl, by decide +kernel, by decide +kernel⟩
def b_following : SM := (sSeq (sAsg (gT 2 (gsCons (gN 5) (gsCons (gN 6) gsNil))) (fVar 3)) (sSeq (sSet 4 (fMut fNil)) (sSeq (sForM 200 (fEnumR (fCons (fVar 1) fNil)) (gT 2 (gsCons (gN 7) (gsCons (gN 8) gsNil))) (sIf (fB (fDef 3 m_can_stand (fCons (fVar 5) (fCons (fOp ixP (fVar 2) (fVar 7)) (fCons (fVar 7) fNil))))) (sSeq (sSet 9 (fDef 3 m_states_behind (fCons (fVar 0) (fCons (fVar 6) (fCons (fVar 8) fNil))))) (sIf (fB (fOp isNotP (fVar 9) (fC .none))) (sExpr (fAppend (fVar 4) (fTup (fCons (fVar 7) (fCons (fTup (fCons (fOp orP (fVar 5) (fOp shlP (fC (.int 1)) (fVar 7))) (fCons (fVar 9) fNil))) fNil))))) sPass)) sPass)) (sRet (fVar 4)))))
def m_following : List Vl → M Vl := mDef 10 b_following
theorem sc_find_order : FnScope ["things", "spans", "needs", "ended", "first", "paths", "met", "node", "order", "at", "behind"] ["things", "spans", "needs"] (defScope s_find_order) := ⟨rfl, rfl, rfl, by decide +kernel, rfl, by decide +kernel, by decide +kernel⟩
def b_find_order : SM := (sSeq (sSet 3 (fDef 1 m_ended (fCons (fVar 1) fNil))) (sSeq (sSet 4 (fTup (fCons (fC (.int 0)) (fCons (fDef 1 m_starts (fCons (fVar 0) fNil)) fNil)))) (sSeq (sSet 5 (fMut (fCons (fTup (fCons (fVar 4) (fCons (fTup fNil) fNil))) fNil))) (sSeq (sSet 6 (fDisp [((fVar 4), (fC (.bool true)))])) (sSeq (sWhile (fB (fOp gtP (fCall lenP (fCons (fVar 5) fNil)) (fC (.int 0)))) (sSeq (sAsg (gT 2 (gsCons (gN 7) (gsCons (gN 8) gsNil))) (fPop (fVar 5))) (sSeq (sIf (fB (fOp eqP (fOp andP (fOp ixP (fVar 7) (fC (.int 0))) (fVar 3)) (fVar 3))) (sRet (fVar 8)) sPass) (sFor (fItems (fDef 4 m_following (fCons (fVar 0) (fCons (fVar 1) (fCons (fVar 2) (fCons (fVar 7) fNil)))))) (gT 2 (gsCons (gN 9) (gsCons (gN 10) gsNil))) (sIf (fB (fDIn true (fVar 10) (fVar 6))) (sSeq (sExpr (fDSet (fC (.bool true)) (fVar 6) (fVar 10))) (sExpr (fAppend (fVar 5) (fTup (fCons (fVar 10) (fCons (fOp addP (fVar 8) (fTup (fCons (fVar 9) fNil))) fNil)))))) sPass)))) 1000) (sRet (fC .none)))))))
def m_find_order : List Vl → M Vl := mDef 11 b_find_order
theorem sc_explained_all : FnScope ["things", "history", "orders", "thing", "part", "spans", "order"] ["things", "history"] (defScope s_explained_all) := ⟨rfl, rfl, rfl, by decide +kernel, rfl, by decide +kernel, by decide +kernel⟩
def b_explained_all : SM := (sSeq (sExpr (fDef 2 m_check (fCons (fVar 0) (fCons (fVar 1) fNil)))) (sSeq (sSet 2 (fMut fNil)) (sSeq (sFor (fZip (fCons (fVar 0) (fCons (fDef 2 m_all_parts (fCons (fVar 0) (fCons (fVar 1) fNil))) fNil))) (gT 2 (gsCons (gN 3) (gsCons (gN 4) gsNil))) (sSeq (sSet 5 (fDef 1 m_spans_in (fCons (fDef 1 m_widened (fCons (fVar 4) fNil)) fNil))) (sSeq (sSet 6 (fDef 3 m_find_order (fCons (fTup (fCons (fVar 3) fNil)) (fCons (fVar 5) (fCons (fDef 1 m_ahead_of_each (fCons (fVar 5) fNil)) fNil))))) (sSeq (sIf (fB (fOp isP (fVar 6) (fC .none))) (sRet (fC .none)) sPass) (sExpr (fAppend (fVar 2) (fVar 6))))))) (sRet (fDef 3 m_weave (fCons (fVar 0) (fCons (fDef 1 m_spans_in (fCons (fVar 1) fNil)) (fCons (fVar 2) fNil))))))))
def m_explained_all : List Vl → M Vl := mDef 7 b_explained_all
theorem sc_is_own_before : FnScope ["one", "other"] ["one", "other"] (defScope s_is_own_before) := ⟨rfl, rfl, rfl, by decide +kernel, rfl, by decide +kernel, by decide +kernel⟩
def b_is_own_before : SM := (sRet (fAndV (fOp eqP (fFld "Span" "thread" (fVar 0)) (fFld "Span" "thread" (fVar 1))) (fOp ltP (fFld "Span" "begin" (fVar 0)) (fFld "Span" "begin" (fVar 1)))))
def m_is_own_before : List Vl → M Vl := mDef 2 b_is_own_before
theorem sc_own_before_each : FnScope ["spans", "span", "at", "other"] ["spans"] (defScope s_own_before_each) := ⟨rfl, rfl, rfl, by decide +kernel, rfl, by decide +kernel, by decide +kernel⟩
def b_own_before_each : SM := (sRet (fCompM .fr 200 (fRead (fVar 0)) (gN 1) fYes (fCall sumP (fCons (fCompM .fr 200 (fEnumR (fCons (fVar 0) fNil)) (gT 2 (gsCons (gN 2) (gsCons (gN 3) gsNil))) (fB (fDef 2 m_is_own_before (fCons (fVar 3) (fCons (fVar 1) fNil)))) (fOp shlP (fC (.int 1)) (fVar 2)) [2, 3]) fNil)) [1]))
def m_own_before_each : List Vl → M Vl := mDef 4 b_own_before_each
theorem sc_in_step_all : FnScope ["things", "history", "spans"] ["things", "history"] (defScope s_in_step_all) := ⟨rfl, rfl, rfl, by decide +kernel, rfl, by decide +kernel, by decide +kernel⟩
def b_in_step_all : SM := (sSeq (sExpr (fDef 2 m_check (fCons (fVar 0) (fCons (fVar 1) fNil)))) (sSeq (sSet 2 (fDef 1 m_spans_in (fCons (fVar 1) fNil))) (sRet (fOp isNotP (fDef 3 m_find_order (fCons (fVar 0) (fCons (fVar 2) (fCons (fDef 1 m_own_before_each (fCons (fVar 2) fNil)) fNil)))) (fC .none)))))
def m_in_step_all : List Vl → M Vl := mDef 3 b_in_step_all
theorem sc_check_history : FnScope ["thing", "value"] ["thing", "value"] (defScope s_check_history) := ⟨rfl, rfl, rfl, by decide +kernel, rfl, by decide +kernel, by decide +kernel⟩
def b_check_history : SM := (sSeq (sIf (fNot (fB (fUn (isiP .tup) (fVar 1)))) sFail sPass) (sExpr (fDef 2 m_check_wide_history (fCons (fTup (fCons (fVar 0) fNil)) (fCons (fDef 1 m_widened (fCons (fVar 1) fNil)) fNil)))))
def m_check_history : List Vl → M Vl := mDef 2 b_check_history
theorem sc_checked_spans : FnScope ["thing", "history"] ["thing", "history"] (defScope s_checked_spans) := ⟨rfl, rfl, rfl, by decide +kernel, rfl, by decide +kernel, by decide +kernel⟩
def b_checked_spans : SM := (sSeq (sExpr (fDef 1 m_check_object (fCons (fVar 0) fNil))) (sSeq (sExpr (fDef 2 m_check_history (fCons (fVar 0) (fCons (fVar 1) fNil)))) (sRet (fDef 1 m_spans_in (fCons (fDef 1 m_widened (fCons (fVar 1) fNil)) fNil)))))
def m_checked_spans : List Vl → M Vl := mDefK 2 b_checked_spans
theorem sc_explained : FnScope ["thing", "history", "found"] ["thing", "history"] (defScope s_explained) := ⟨rfl, rfl, rfl, by decide +kernel, rfl, by decide +kernel, by decide +kernel⟩
def b_explained : SM := (sSeq (sSet 2 (fDef 2 m_checked_spans (fCons (fVar 0) (fCons (fVar 1) fNil)))) (sRet (fDef 3 m_find_order (fCons (fTup (fCons (fVar 0) fNil)) (fCons (fVar 2) (fCons (fDef 1 m_ahead_of_each (fCons (fVar 2) fNil)) fNil))))))
def m_explained : List Vl → M Vl := mDef 3 b_explained
theorem sc_count_orders : FnScope ["things", "spans", "needs", "ended", "total", "counts", "longer", "node", "many", "_", "behind"] ["things", "spans", "needs"] (defScope s_count_orders) := ⟨rfl, rfl, rfl, by decide +kernel, rfl, by decide +kernel, by decide +kernel⟩
def b_count_orders : SM := (sSeq (sSet 3 (fDef 1 m_ended (fCons (fVar 1) fNil))) (sSeq (sSet 4 (fC (.int 0))) (sSeq (sSet 5 (fDisp [((fTup (fCons (fC (.int 0)) (fCons (fDef 1 m_starts (fCons (fVar 0) fNil)) fNil))), (fC (.int 1)))])) (sSeq (sWhile (fB (fOp gtP (fLenT (fCons (fVar 5) fNil)) (fC (.int 0)))) (sSeq (sSet 6 fK0) (sSeq (sLock 5 (sFor (fLocked true (fVar 5)) (gT 2 (gsCons (gN 7) (gsCons (gN 8) gsNil))) (sSeq (sIf (fB (fOp eqP (fOp andP (fOp ixP (fVar 7) (fC (.int 0))) (fVar 3)) (fVar 3))) (sSet 4 (fOp (fun x y => match x, y with | .int i, .int j => some (.int (i + j)) | _, _ => none) (fVar 4) (fVar 8))) sPass) (sFor (fItems (fDef 4 m_following (fCons (fVar 0) (fCons (fVar 1) (fCons (fVar 2) (fCons (fVar 7) fNil)))))) (gT 2 (gsCons (gN 9) (gsCons (gN 10) gsNil))) (sExpr (fDSet (fOp addP (fDGet2 (fVar 6) (fVar 10) (fC (.int 0))) (fVar 8)) (fVar 6) (fVar 10))))))) (sSet 5 (fVar 6)))) 1000) (sRet (fVar 4))))))
def m_count_orders : List Vl → M Vl := mDef 11 b_count_orders
theorem sc_order_count : FnScope ["thing", "history", "found"] ["thing", "history"] (defScope s_order_count) := ⟨rfl, rfl, rfl, by decide +kernel, rfl, by decide +kernel, by decide +kernel⟩
def b_order_count : SM := (sSeq (sSet 2 (fDef 2 m_checked_spans (fCons (fVar 0) (fCons (fVar 1) fNil)))) (sRet (fDef 3 m_count_orders (fCons (fTup (fCons (fVar 0) fNil)) (fCons (fVar 2) (fCons (fDef 1 m_ahead_of_each (fCons (fVar 2) fNil)) fNil))))))
def m_order_count : List Vl → M Vl := mDef 3 b_order_count
theorem sc_Judge_init : FnScope ["self", "thing"] ["self", "thing"] (defScope s_Judge_init) := ⟨rfl, rfl, rfl, by decide +kernel, rfl, by decide +kernel, by decide +kernel⟩
def b_Judge_init : SM := (sSeq (sExpr (sFldP "Judge" "thing" (fVar 0) (fVar 1))) (sSeq (sExpr (sFldP "Judge" "known" (fVar 0) (fMut fNil))) (sExpr (sFldP "Judge" "numbers" (fVar 0) fK0))))
def m_Judge_init : List Vl → M Vl := mDefK 2 b_Judge_init
theorem sc_Judge_keep : FnScope ["self", "guesses", "guess"] ["self", "guesses"] (defScope s_Judge_keep) := ⟨rfl, rfl, rfl, by decide +kernel, rfl, by decide +kernel, by decide +kernel⟩
def b_Judge_keep : SM := (sSeq (sFor (fItems (fVar 1)) (gN 2) (sIf (fB (fDIn true (fVar 2) (fFld "Judge" "numbers" (fVar 0)))) (sSeq (sExpr (fDSet (fCall lenP (fCons (fFld "Judge" "known" (fVar 0)) fNil)) (fFld "Judge" "numbers" (fVar 0)) (fVar 2))) (sExpr (fAppend (fFld "Judge" "known" (fVar 0)) (fVar 2)))) sPass)) (sRet (fCall tupleP (fCons (fCall sortedP (fCons (fComp (fItems (fVar 1)) (gN 2) fYes (fDGet (fFld "Judge" "numbers" (fVar 0)) (fVar 2)) [2]) fNil)) fNil))))
def m_Judge_keep : List Vl → M Vl := mDef 3 b_Judge_keep
theorem sc_Judge_first : FnScope ["self"] ["self"] (defScope s_Judge_first) := ⟨rfl, rfl, rfl, by decide +kernel, rfl, by decide +kernel, by decide +kernel⟩
def b_Judge_first : SM := (sRet (fMeth "Judge" "keep" 2 m_Judge_keep (fVar 0) (fCons (fLst (fCons (fTup (fCons (fDef 1 m_start (fCons (fFld "Judge" "thing" (fVar 0)) fNil)) (fCons (fOp mulTP (fTup (fCons (fC .none) fNil)) (fC (.int 4))) fNil))) fNil)) fNil)))
def m_Judge_first : List Vl → M Vl := mDef 1 b_Judge_first
theorem sc_marked : FnScope ["guess", "thread", "mark", "state", "marks"] ["guess", "thread", "mark"] (defScope s_marked) := ⟨rfl, rfl, rfl, by decide +kernel, rfl, by decide +kernel, by decide +kernel⟩
def b_marked : SM := (sSeq (sAsg (gT 2 (gsCons (gN 3) (gsCons (gN 4) gsNil))) (fVar 0)) (sRet (fTup (fCons (fVar 3) (fCons (fOp addP (fOp addP (fSl (fVar 4) oN (oI (fVar 1))) (fTup (fCons (fVar 2) fNil))) (fSl (fVar 4) (oI (fOp addP (fVar 1) (fC (.int 1)))) oN)) fNil)))))
def m_marked : List Vl → M Vl := mDef 5 b_marked
theorem sc_has_heard : FnScope ["mark", "answer"] ["mark", "answer"] (defScope s_has_heard) := ⟨rfl, rfl, rfl, by decide +kernel, rfl, by decide +kernel, by decide +kernel⟩
def b_has_heard : SM := (sRet (fAndV (fOp eqP (fCall lenP (fCons (fVar 0) fNil)) (fC (.int 2))) (fDef 2 (m_same 6) (fCons (fOp ixP (fVar 0) (fC (.int 1))) (fCons (fVar 1) fNil)))))
def m_has_heard : List Vl → M Vl := mDef 2 b_has_heard
theorem sc_spread : FnScope ["thing", "guesses", "found", "met", "at", "guess", "state", "marks", "thread", "mark", "behind", "answer"] ["thing", "guesses"] (defScope s_spread) := ⟨rfl, rfl, rfl, by decide +kernel, rfl, by decide +kernel, by decide +kernel⟩
def b_spread : SM := (sSeq (sSet 2 (fMutL (fCons (fVar 1) fNil))) (sSeq (sSet 3 (fCompD 200 (fRead (fVar 2)) (gN 5) fYes (fVar 5) (fC (.bool true)) [5])) (sSeq (sSet 4 (fC (.int 0))) (sSeq (sWhile (fB (fOp ltP (fVar 4) (fCall lenP (fCons (fVar 2) fNil)))) (sSeq (sAsg (gT 2 (gsCons (gN 6) (gsCons (gN 7) gsNil))) (fOp ixP (fVar 2) (fVar 4))) (sSeq (sForM 200 (fEnumR (fCons (fVar 7) fNil)) (gT 2 (gsCons (gN 8) (gsCons (gN 9) gsNil))) (sIf (fAnd (fB (fOp isNotP (fVar 9) (fC .none))) (fB (fOp eqP (fCall lenP (fCons (fVar 9) fNil)) (fC (.int 1))))) (sSeq (sAsg (gT 2 (gsCons (gN 10) (gsCons (gN 11) gsNil))) (fDef 3 m_step (fCons (fVar 0) (fCons (fVar 6) (fCons (fOp ixP (fVar 9) (fC (.int 0))) fNil))))) (sSeq (sSet 5 (fDef 3 m_marked (fCons (fTup (fCons (fVar 10) (fCons (fVar 7) fNil))) (fCons (fVar 8) (fCons (fTup (fCons (fOp ixP (fVar 9) (fC (.int 0))) (fCons (fVar 11) fNil))) fNil))))) (sIf (fB (fDIn true (fVar 5) (fVar 3))) (sSeq (sExpr (fDSet (fC (.bool true)) (fVar 3) (fVar 5))) (sExpr (fAppend (fVar 2) (fVar 5)))) sPass))) sPass)) (sSet 4 (fOp (fun x y => match x, y with | .int i, .int j => some (.int (i + j)) | _, _ => none) (fVar 4) (fC (.int 1)))))) 1000) (sRet (fVar 2))))))
def m_spread : List Vl → M Vl := mDef 12 b_spread
theorem sc_Judge_hear : FnScope ["self", "kept", "event", "guesses", "word", "thread", "told", "number", "guess"] ["self", "kept", "event"] (defScope s_Judge_hear) := ⟨rfl, rfl, rfl, by decide +kernel, rfl, by decide +kernel, by decide +kernel⟩
def b_Judge_hear : SM := (sSeq (sAsg (gT 3 (gsCons (gN 4) (gsCons (gN 5) (gsCons (gN 6) gsNil)))) (fVar 2)) (sSeq (sSet 3 (fComp (fItems (fVar 1)) (gN 7) fYes (fOp ixP (fFld "Judge" "known" (fVar 0)) (fVar 7)) [7])) (sSeq (sIf (fB (fOp eqP (fVar 4) (fC (.str "call")))) (sRet (fMeth "Judge" "keep" 2 m_Judge_keep (fVar 0) (fCons (fDef 2 m_spread (fCons (fFld "Judge" "thing" (fVar 0)) (fCons (fComp (fItems (fVar 3)) (gN 8) fYes (fDef 3 m_marked (fCons (fVar 8) (fCons (fVar 5) (fCons (fTup (fCons (fVar 6) fNil)) fNil)))) [8]) fNil))) fNil))) sPass) (sRet (fMeth "Judge" "keep" 2 m_Judge_keep (fVar 0) (fCons (fComp (fItems (fVar 3)) (gN 8) (fB (fDef 2 m_has_heard (fCons (fOp ixP (fOp ixP (fVar 8) (fC (.int 1))) (fVar 5)) (fCons (fVar 6) fNil)))) (fDef 3 m_marked (fCons (fVar 8) (fCons (fVar 5) (fCons (fC .none) fNil)))) [8]) fNil))))))
def m_Judge_hear : List Vl → M Vl := mDef 9 b_Judge_hear
theorem sc_first_wrong : FnScope ["thing", "history", "judge", "kept", "at", "event"] ["thing", "history"] (defScope s_first_wrong) := ⟨rfl, rfl, rfl, by decide +kernel, rfl, by decide +kernel, by decide +kernel⟩
def b_first_wrong : SM := (sSeq (sExpr (fDef 1 m_check_object (fCons (fVar 0) fNil))) (sSeq (sExpr (fDef 2 m_check_history (fCons (fVar 0) (fCons (fVar 1) fNil)))) (sSeq (sSet 2 (fNew "Judge" 2 m_Judge_init (fCons (fVar 0) fNil))) (sSeq (sSet 3 (fMeth "Judge" "first" 1 m_Judge_first (fVar 2) fNil)) (sSeq (sForM 200 (fEnumR (fCons (fVar 1) fNil)) (gT 2 (gsCons (gN 4) (gsCons (gN 5) gsNil))) (sSeq (sSet 3 (fMeth "Judge" "hear" 3 m_Judge_hear (fVar 2) (fCons (fVar 3) (fCons (fVar 5) fNil)))) (sIf (fB (fOp eqP (fCall lenP (fCons (fVar 3) fNil)) (fC (.int 0)))) (sRet (fVar 4)) sPass))) (sRet (fC .none)))))))
def m_first_wrong : List Vl → M Vl := mDef 6 b_first_wrong
theorem sc_in_step : FnScope ["thing", "history", "found"] ["thing", "history"] (defScope s_in_step) := ⟨rfl, rfl, rfl, by decide +kernel, rfl, by decide +kernel, by decide +kernel⟩
def b_in_step : SM := (sSeq (sSet 2 (fDef 2 m_checked_spans (fCons (fVar 0) (fCons (fVar 1) fNil)))) (sRet (fDef 3 m_find_order (fCons (fTup (fCons (fVar 0) fNil)) (fCons (fVar 2) (fCons (fDef 1 m_own_before_each (fCons (fVar 2) fNil)) fNil))))))
def m_in_step : List Vl → M Vl := mDef 3 b_in_step
theorem sc_Ltaken : FnScope ["row", "many", "cell", "found"] ["row", "many"] (defScope s_Ltaken) := ⟨rfl, rfl, rfl, by decide +kernel, rfl, by decide +kernel, by decide +kernel⟩
def b_Ltaken : SM := (sSeq (sIf (fB (fOp gtP (fOp ixP (fVar 0) (fC (.int 3))) (fC (.int 0)))) (sSeq (sSet 3 (fOp modP (fCall intP (fCons (fOp ixP (fVar 0) (fC (.int 3))) fNil)) (fVar 1))) (sSeq (sExpr (fPut (fOp fdivP (fOp ixP (fVar 0) (fC (.int 3))) (fVar 1)) (fVar 0) (fC (.int 3)))) (sRet (fVar 3)))) sPass) (sSeq (sExpr (fPut (fOp addP (fOp ixP (fVar 0) (fC (.int 1))) (fC (.int 1))) (fVar 0) (fC (.int 1)))) (sSeq (sIf (fB (fOp gtP (fOp ixP (fVar 0) (fC (.int 1))) (fCall lenP (fCons (fOp ixP (fVar 0) (fC (.int 0))) fNil)))) (sSeq (sExpr (fPut (fOp modP (fCall intP (fCons (fOp addP (fOp mulP (fOp ixP (fVar 0) (fC (.int 2))) (fC (.int 48271))) (fC (.int 11))) fNil)) (fC (.int 2147483647))) (fVar 0) (fC (.int 2)))) (sRet (fOp modP (fCall intP (fCons (fOp fdivP (fOp ixP (fVar 0) (fC (.int 2))) (fC (.int 7))) fNil)) (fVar 1)))) sPass) (sSeq (sSet 2 (fOp ixP (fOp ixP (fVar 0) (fC (.int 0))) (fOp subP (fOp ixP (fVar 0) (fC (.int 1))) (fC (.int 1))))) (sSeq (sExpr (fPut (fOp modP (fCall intP (fCons (fOp addP (fOp addP (fOp mulP (fOp ixP (fVar 0) (fC (.int 2))) (fC (.int 48271))) (fVar 2)) (fC (.int 11))) fNil)) (fC (.int 2147483647))) (fVar 0) (fC (.int 2)))) (sSeq (sIf (fB (fOp geP (fVar 2) (fOp powP (fC (.int 10)) (fC (.int 18))))) (sExpr (fPut (fOp fdivP (fVar 2) (fVar 1)) (fVar 0) (fC (.int 3)))) sPass) (sRet (fOp modP (fCall intP (fCons (fVar 2) fNil)) (fVar 1)))))))))
def m_Ltaken : List Vl → M Vl := mDef 4 b_Ltaken
theorem sc_Lpick : FnScope ["row", "things"] ["row", "things"] (defScope s_Lpick) := ⟨rfl, rfl, rfl, by decide +kernel, rfl, by decide +kernel, by decide +kernel⟩
def b_Lpick : SM := (sRet (fOp ixP (fVar 1) (fDef 2 m_Ltaken (fCons (fVar 0) (fCons (fCall lenP (fCons (fVar 1) fNil)) fNil)))))
def m_Lpick : List Vl → M Vl := mDef 2 b_Lpick
structure Txt (K : PySem.W.Frag) (mg : Str → Option Value) (w : World) : Prop where
  n_all : mg "all" = none
  n_any : mg "any" = none
  n_bool : mg "bool" = none
  n_enumerate : mg "enumerate" = none
  n_int : mg "int" = none
  n_isinstance : mg "isinstance" = none
  n_len : mg "len" = none
  n_list : mg "list" = none
  n_range : mg "range" = none
  n_sorted : mg "sorted" = none
  n_str : mg "str" = none
  n_sum : mg "sum" = none
  n_tuple : mg "tuple" = none
  n_zip : mg "zip" = none
  t_FORMS : Tab K w mg "_FORMS" tab_FORMS
  t_CALLS : Tab K w mg "_CALLS" tab_CALLS
  t_STEPS : Tab K w mg "_STEPS" tab_STEPS
  g_THREADS : ∃ t, mg "THREADS" = some (.int 4 t)
  g_MOST_EVENTS : ∃ t, mg "MOST_EVENTS" = some (.int 24 t)
  g_MOST_OBJECTS : ∃ t, mg "MOST_OBJECTS" = some (.int 3 t)
  c_Judge : ClsN K mg "Judge"
  c_Span : ClsN K mg "Span"
  a_Judge_known : NoAt K mg "Judge" "known"
  a_Judge_numbers : NoAt K mg "Judge" "numbers"
  a_Judge_thing : NoAt K mg "Judge" "thing"
  a_Span_answer : NoAt K mg "Span" "answer"
  a_Span_begin : NoAt K mg "Span" "begin"
  a_Span_call : NoAt K mg "Span" "call"
  a_Span_end : NoAt K mg "Span" "end"
  a_Span_place : NoAt K mg "Span" "place"
  a_Span_thread : NoAt K mg "Span" "thread"
  d_is_integer : DefAt K mg "is_integer" s_is_integer ["value"]
  d_is_within : DefAt K mg "is_within" s_is_within ["value", "low", "high"]
  d_same : DefAt K mg "same" s_same ["one", "other"]
  d_counter_calls : DefAt K mg "_counter_calls" s_counter_calls ["thing"]
  d_register_calls : DefAt K mg "_register_calls" s_register_calls ["thing"]
  d_stack_calls : DefAt K mg "_stack_calls" s_stack_calls ["thing"]
  d_queue_calls : DefAt K mg "_queue_calls" s_queue_calls ["thing"]
  d_set_calls : DefAt K mg "_set_calls" s_set_calls ["thing"]
  d_agree_calls : DefAt K mg "_agree_calls" s_agree_calls ["thing"]
  d_bank_calls : DefAt K mg "_bank_calls" s_bank_calls ["thing"]
  d_table_calls : DefAt K mg "_table_calls" s_table_calls ["thing"]
  d_call_rows : DefAt K mg "call_rows" s_call_rows ["thing"]
  d_has_call : DefAt K mg "has_call" s_has_call ["thing", "value"]
  d_is_thread : DefAt K mg "is_thread" s_is_thread ["value"]
  d_is_answer : DefAt K mg "_is_answer" s_is_answer ["value"]
  d_can_come : DefAt K mg "_can_come" s_can_come ["things", "places", "event"]
  d_wrong_place : DefAt K mg "wrong_place" s_wrong_place ["things", "wide"]
  d_has_wide_history : DefAt K mg "has_wide_history" s_has_wide_history ["things", "value"]
  d_has_size : DefAt K mg "_has_size" s_has_size ["value"]
  d_has_room_and_size : DefAt K mg "_has_room_and_size" s_has_room_and_size ["value"]
  d_are_within : DefAt K mg "are_within" s_are_within ["value", "low", "high"]
  d_has_amounts : DefAt K mg "_has_amounts" s_has_amounts ["value"]
  d_is_pair : DefAt K mg "_is_pair" s_is_pair ["value", "many"]
  d_is_row : DefAt K mg "_is_row" s_is_row ["value", "many"]
  d_has_rows : DefAt K mg "_has_rows" s_has_rows ["value"]
  d_has_form : DefAt K mg "has_form" s_has_form ["value"]
  d_check_object : DefAt K mg "check_object" s_check_object ["value"]
  d_check_things : DefAt K mg "check_things" s_check_things ["value"]
  d_is_wide_history : DefAt K mg "is_wide_history" s_is_wide_history ["things", "value"]
  d_check_wide_history : DefAt K mg "check_wide_history" s_check_wide_history ["things", "value"]
  d_check : DefAt K mg "_check" s_check ["things", "history"]
  d_narrowed : DefAt K mg "narrowed" s_narrowed ["wide", "place"]
  d_all_parts : DefAt K mg "_all_parts" s_all_parts ["things", "history"]
  d_parts : DefAt K mg "parts" s_parts ["things", "history"]
  d_widened_event : DefAt K mg "_widened_event" s_widened_event ["event"]
  d_widened : DefAt K mg "widened" s_widened ["history"]
  i_Span : InitAt K mg "Span" "Span.__init__" s_Span_init ["self", "thread", "place", "call", "begin"]
  d_spans_in : DefAt K mg "spans_in" s_spans_in ["wide"]
  d_is_ahead : DefAt K mg "_is_ahead" s_is_ahead ["one", "other"]
  d_ahead_of_each : DefAt K mg "ahead_of_each" s_ahead_of_each ["spans"]
  d_ended : DefAt K mg "_ended" s_ended ["spans"]
  d_start : DefAt K mg "start" s_start ["thing"]
  d_starts : DefAt K mg "_starts" s_starts ["things"]
  d_counter_step : DefAt K mg "_counter_step" s_counter_step ["thing", "state", "call"]
  d_register_step : DefAt K mg "_register_step" s_register_step ["thing", "state", "call"]
  d_put_at_end : DefAt K mg "_put_at_end" s_put_at_end ["thing", "state", "k"]
  d_stack_step : DefAt K mg "_stack_step" s_stack_step ["thing", "state", "call"]
  d_queue_step : DefAt K mg "_queue_step" s_queue_step ["thing", "state", "call"]
  d_set_step : DefAt K mg "_set_step" s_set_step ["thing", "state", "call"]
  d_agree_step : DefAt K mg "_agree_step" s_agree_step ["thing", "state", "call"]
  d_bank_step : DefAt K mg "_bank_step" s_bank_step ["thing", "state", "call"]
  d_table_step : DefAt K mg "_table_step" s_table_step ["thing", "state", "call"]
  d_step : DefAt K mg "step" s_step ["thing", "state", "call"]
  d_states_behind : DefAt K mg "_states_behind" s_states_behind ["things", "states", "span"]
  d_can_stand : DefAt K mg "_can_stand" s_can_stand ["held", "needed", "at"]
  d_is_order : DefAt K mg "is_order" s_is_order ["things", "spans", "needs", "value"]
  d_numbers : DefAt K mg "_numbers" s_numbers ["spans", "place", "order"]
  d_weave : DefAt K mg "_weave" s_weave ["things", "spans", "orders"]
  d_woven : DefAt K mg "woven" s_woven ["things", "history", "orders"]
  d_following : DefAt K mg "_following" s_following ["things", "spans", "needs", "node"]
  d_find_order : DefAt K mg "find_order" s_find_order ["things", "spans", "needs"]
  d_explained_all : DefAt K mg "explained_all" s_explained_all ["things", "history"]
  d_is_own_before : DefAt K mg "_is_own_before" s_is_own_before ["one", "other"]
  d_own_before_each : DefAt K mg "own_before_each" s_own_before_each ["spans"]
  d_in_step_all : DefAt K mg "in_step_all" s_in_step_all ["things", "history"]
  d_check_history : DefAt K mg "check_history" s_check_history ["thing", "value"]
  d_checked_spans : DefAt K mg "_checked_spans" s_checked_spans ["thing", "history"]
  d_explained : DefAt K mg "explained" s_explained ["thing", "history"]
  d_count_orders : DefAt K mg "count_orders" s_count_orders ["things", "spans", "needs"]
  d_order_count : DefAt K mg "order_count" s_order_count ["thing", "history"]
  i_Judge : InitAt K mg "Judge" "Judge.__init__" s_Judge_init ["self", "thing"]
  m_Judge_keep : MethAt K mg "Judge" "keep" "Judge.keep" s_Judge_keep ["self", "guesses"]
  m_Judge_first : MethAt K mg "Judge" "first" "Judge.first" s_Judge_first ["self"]
  d_marked : DefAt K mg "_marked" s_marked ["guess", "thread", "mark"]
  d_has_heard : DefAt K mg "_has_heard" s_has_heard ["mark", "answer"]
  d_spread : DefAt K mg "_spread" s_spread ["thing", "guesses"]
  m_Judge_hear : MethAt K mg "Judge" "hear" "Judge.hear" s_Judge_hear ["self", "kept", "event"]
  d_first_wrong : DefAt K mg "first_wrong" s_first_wrong ["thing", "history"]
  d_in_step : DefAt K mg "in_step" s_in_step ["thing", "history"]
  d_Ltaken : DefAt K mg "_law_taken" s_Ltaken ["row", "many"]
  d_Lpick : DefAt K mg "_law_pick" s_Lpick ["row", "things"]
theorem ok_is_integer {P : Program} {w : World} {K : PySem.W.Frag} {mg : Str → Option Value} {base : Heap} (T : Txt K mg w) : Has P w K mg base 1 "is_integer" 1 m_is_integer := has_of (N := ["value"]) (ps := ["value"]) (k := 0) T.d_is_integer sc_is_integer fun f cdv A outer s H E hr => (qss_one (qs_ret (qe_and (qe_isi .int (qe_var 0) rfl T.n_isinstance rfl T.n_int PyProof.Rows.boot_int (by decide) (by decide)) (qe_one (qe_not (qe_isi .bool (qe_var 0) rfl T.n_isinstance rfl T.n_bool PyProof.Rows.boot_bool (by decide) (by decide)))))))
theorem ok_is_within {P : Program} {w : World} {K : PySem.W.Frag} {mg : Str → Option Value} {base : Heap} (T : Txt K mg w) : Has P w K mg base 2 "is_within" 3 m_is_within := has_of (N := ["value", "low", "high"]) (ps := ["value", "low", "high"]) (k := 1) T.d_is_within sc_is_within fun f cdv A outer s H E hr => (qss_one (qs_ret (qe_and (qe_call (ok_is_integer T) (hr.mono (by decide)) (takes_of rfl rfl rfl rfl) rfl (qa_cons (qe_var 0) qa_nil)) (qe_one (qe_chain q_le q_le (qe_var 1) (qe_var 0) (qe_var 2))))))
theorem okr_same {P : Program} {w : World} {K : PySem.W.Frag} {mg : Str → Option Value} {base : Heap} (T : Txt K mg w) : ∀ n : Nat, Has P w K mg base (1 + n) "same" 2 (m_same n)
  | 0 => has_fail T.d_same
  | n + 1 => has_of (N := ["one", "other", "left", "right"]) (ps := ["one", "other"]) (k := 1 + n) T.d_same sc_same fun f cdv A outer s H E hr => have hself := okr_same T n; (qss_cons (qs_if (qt_val (qe_isi .tup (qe_var 0) rfl T.n_isinstance rfl T.n_tuple PyProof.Rows.boot_tuple (by decide) (by decide))) (qss_cons (qs_if (QW.qt (qw_or (qt_not (qt_val (qe_isi .tup (qe_var 1) rfl T.n_isinstance rfl T.n_tuple PyProof.Rows.boot_tuple (by decide) (by decide)))) (qw_or1 (qt_cmp (q_ne (hu64 hr)).op (qe_callB q_len rfl T.n_len PySem.boot_len (qa_cons (qe_var 0) qa_nil)) (qe_callB q_len rfl T.n_len PySem.boot_len (qa_cons (qe_var 1) qa_nil)))))) (qss_one (qs_ret qe_bl)) qss_nil) (qss_one (qs_ret (qe_callB (q_all rfl) rfl T.n_all boot_all (qa_cons (qe_comp (own := [("left", 2), ("right", 3)]) rfl sc_same.nd (qi_zip rfl T.n_zip (qa_cons (qe_var 0) (qa_cons (qe_var 1) qa_nil))) (blkOk_by (N := ["one", "other", "left", "right"]) (sc := defScope s_same) (own := [("left", 2), ("right", 3)]) (by decide +kernel)) (fun _ _ _ _ _ => (qg_tup rfl (qgs_cons (qg_name 2 sc_same.nd) (qgs_cons (qg_name 3 sc_same.nd) qgs_nil)))) (fun _ _ _ _ _ => qts_nil) (fun _ _ _ _ _ => (qe_call hself (hr.mono (by omega)) takes0 rfl (qa_cons (qe_var 2) (qa_cons (qe_var 3) qa_nil))))) qa_nil))))) qss_nil) (qss_cons (qs_if (qt_cmp q_is.op (qe_var 0) qe_non) (qss_one (qs_ret (qe_cmp q_is.op (qe_var 1) qe_non))) qss_nil) (qss_cons (qs_if (qt_val (qe_isi .bool (qe_var 0) rfl T.n_isinstance rfl T.n_bool PyProof.Rows.boot_bool (by decide) (by decide))) (qss_one (qs_ret (qe_and (qe_isi .bool (qe_var 1) rfl T.n_isinstance rfl T.n_bool PyProof.Rows.boot_bool (by decide) (by decide)) (qe_one (qe_cmp (q_eq (hu64 hr)).op (qe_var 0) (qe_var 1)))))) qss_nil) (qss_cons (qs_if (qt_val (qe_isi .int (qe_var 0) rfl T.n_isinstance rfl T.n_int PyProof.Rows.boot_int (by decide) (by decide))) (qss_one (qs_ret (qe_and (qe_call (ok_is_integer T) (hr.mono (by omega)) (takes_of rfl rfl rfl rfl) rfl (qa_cons (qe_var 1) qa_nil)) (qe_one (qe_cmp (q_eq (hu64 hr)).op (qe_var 0) (qe_var 1)))))) qss_nil) (qss_one (qs_ret (qe_and (qe_isi .str (qe_var 0) rfl T.n_isinstance rfl T.n_str PyProof.Rows.boot_str (by decide) (by decide)) (qe_and (qe_isi .str (qe_var 1) rfl T.n_isinstance rfl T.n_str PyProof.Rows.boot_str (by decide) (by decide)) (qe_one (qe_cmp (q_eq (hu64 hr)).op (qe_var 0) (qe_var 1)))))))))))
theorem ok_same {P : Program} {w : World} {K : PySem.W.Frag} {mg : Str → Option Value} {base : Heap} (T : Txt K mg w) : Has P w K mg base 7 "same" 2 (m_same 6) := okr_same T 6
theorem ok_counter_calls {P : Program} {w : World} {K : PySem.W.Frag} {mg : Str → Option Value} {base : Heap} (T : Txt K mg w) : Has P w K mg base 1 "_counter_calls" 1 m_counter_calls := has_of (N := ["thing", "k"]) (ps := ["thing"]) (k := 0) T.d_counter_calls sc_counter_calls fun f cdv A outer s H E hr => (qss_one (qs_ret (qe_op q_add (qe_comp (own := [("k", 1)]) rfl sc_counter_calls.nd (qi_range2 rfl T.n_range (qa_cons qe_int (qa_cons (qe_ix q_ix (qe_var 0) qe_int) qa_nil))) (blkOk_by (N := ["thing", "k"]) (sc := defScope s_counter_calls) (own := [("k", 1)]) (by decide +kernel)) (fun _ _ _ _ _ => (qg_name 1 sc_counter_calls.nd)) (fun _ _ _ _ _ => qts_nil) (fun _ _ _ _ _ => (qe_tup (qa_cons qe_str (qa_cons (qe_var 1) qa_nil))))) (qe_lst (qa_cons (qe_tup (qa_cons qe_str qa_nil)) qa_nil)))))
theorem ok_register_calls {P : Program} {w : World} {K : PySem.W.Frag} {mg : Str → Option Value} {base : Heap} (T : Txt K mg w) : Has P w K mg base 1 "_register_calls" 1 m_register_calls := has_of (N := ["thing", "puts", "k"]) (ps := ["thing"]) (k := 0) T.d_register_calls sc_register_calls fun f cdv A outer s H E hr => (qss_cons (qs_comp (own := [("k", 2)]) 1 rfl sc_register_calls.nd (qi_range1 rfl T.n_range (qa_cons (qe_ix q_ix (qe_var 0) qe_int) qa_nil)) (blkOk_by (N := ["thing", "puts", "k"]) (sc := defScope s_register_calls) (own := [("k", 2)]) (by decide +kernel)) (fun _ _ _ _ _ => (qg_name 2 sc_register_calls.nd)) (fun _ _ _ _ _ => qts_nil) (fun _ _ _ _ _ => (qe_tup (qa_cons qe_str (qa_cons (qe_var 2) qa_nil)))) (sw_true rfl rfl rfl (by decide +kernel))) (qss_one (qs_ret (qe_op q_add (qe_op q_add (qe_lst (qa_cons (qe_tup (qa_cons qe_str qa_nil)) qa_nil)) (qe_var 1)) (qe_comp (own := [("k", 2)]) rfl sc_register_calls.nd (qi_range1 rfl T.n_range (qa_cons (qe_ix q_ix (qe_var 0) qe_int) qa_nil)) (blkOk_by (N := ["thing", "puts", "k"]) (sc := defScope s_register_calls) (own := [("k", 2)]) (by decide +kernel)) (fun _ _ _ _ _ => (qg_name 2 sc_register_calls.nd)) (fun _ _ _ _ _ => qts_nil) (fun _ _ _ _ _ => (qe_tup (qa_cons qe_str (qa_cons (qe_var 2) qa_nil)))))))))
theorem ok_stack_calls {P : Program} {w : World} {K : PySem.W.Frag} {mg : Str → Option Value} {base : Heap} (T : Txt K mg w) : Has P w K mg base 1 "_stack_calls" 1 m_stack_calls := has_of (N := ["thing", "k"]) (ps := ["thing"]) (k := 0) T.d_stack_calls sc_stack_calls fun f cdv A outer s H E hr => (qss_one (qs_ret (qe_op q_add (qe_lst (qa_cons (qe_tup (qa_cons qe_str qa_nil)) qa_nil)) (qe_comp (own := [("k", 1)]) rfl sc_stack_calls.nd (qi_range1 rfl T.n_range (qa_cons (qe_ix q_ix (qe_var 0) qe_int) qa_nil)) (blkOk_by (N := ["thing", "k"]) (sc := defScope s_stack_calls) (own := [("k", 1)]) (by decide +kernel)) (fun _ _ _ _ _ => (qg_name 1 sc_stack_calls.nd)) (fun _ _ _ _ _ => qts_nil) (fun _ _ _ _ _ => (qe_tup (qa_cons qe_str (qa_cons (qe_var 1) qa_nil))))))))
theorem ok_queue_calls {P : Program} {w : World} {K : PySem.W.Frag} {mg : Str → Option Value} {base : Heap} (T : Txt K mg w) : Has P w K mg base 1 "_queue_calls" 1 m_queue_calls := has_of (N := ["thing", "k"]) (ps := ["thing"]) (k := 0) T.d_queue_calls sc_queue_calls fun f cdv A outer s H E hr => (qss_one (qs_ret (qe_op q_add (qe_comp (own := [("k", 1)]) rfl sc_queue_calls.nd (qi_range1 rfl T.n_range (qa_cons (qe_ix q_ix (qe_var 0) qe_int) qa_nil)) (blkOk_by (N := ["thing", "k"]) (sc := defScope s_queue_calls) (own := [("k", 1)]) (by decide +kernel)) (fun _ _ _ _ _ => (qg_name 1 sc_queue_calls.nd)) (fun _ _ _ _ _ => qts_nil) (fun _ _ _ _ _ => (qe_tup (qa_cons qe_str (qa_cons (qe_var 1) qa_nil))))) (qe_lst (qa_cons (qe_tup (qa_cons qe_str qa_nil)) qa_nil)))))
theorem ok_set_calls {P : Program} {w : World} {K : PySem.W.Frag} {mg : Str → Option Value} {base : Heap} (T : Txt K mg w) : Has P w K mg base 1 "_set_calls" 1 m_set_calls := has_of (N := ["thing", "word", "k"]) (ps := ["thing"]) (k := 0) T.d_set_calls sc_set_calls fun f cdv A outer s H E hr => (qss_one (qs_ret (qe_compN (own := [("word", 1), ("k", 2)]) rfl sc_set_calls.nd (qi_sq (qe_tup (qa_cons qe_str (qa_cons qe_str (qa_cons qe_str qa_nil))))) (blkOk_by (N := ["thing", "word", "k"]) (sc := defScope s_set_calls) (own := [("word", 1), ("k", 2)]) (by decide +kernel)) (fun _ _ _ _ _ => (qg_name 1 sc_set_calls.nd)) (fun _ _ _ _ _ => qts_nil) (fun _ _ _ _ _ => (qb_more (is := [2]) rfl rfl (qi_range1 rfl T.n_range (qa_cons (qe_ix q_ix (qe_var 0) qe_int) qa_nil)) (qg_name 2 sc_set_calls.nd) qts_nil (qb_last rfl (qe_tup (qa_cons (qe_var 1) (qa_cons (qe_var 2) qa_nil))) []))))))
theorem ok_agree_calls {P : Program} {w : World} {K : PySem.W.Frag} {mg : Str → Option Value} {base : Heap} (T : Txt K mg w) : Has P w K mg base 1 "_agree_calls" 1 m_agree_calls := has_of (N := ["thing", "k"]) (ps := ["thing"]) (k := 0) T.d_agree_calls sc_agree_calls fun f cdv A outer s H E hr => (qss_one (qs_ret (qe_comp (own := [("k", 1)]) rfl sc_agree_calls.nd (qi_range1 rfl T.n_range (qa_cons (qe_ix q_ix (qe_var 0) qe_int) qa_nil)) (blkOk_by (N := ["thing", "k"]) (sc := defScope s_agree_calls) (own := [("k", 1)]) (by decide +kernel)) (fun _ _ _ _ _ => (qg_name 1 sc_agree_calls.nd)) (fun _ _ _ _ _ => qts_nil) (fun _ _ _ _ _ => (qe_tup (qa_cons qe_str (qa_cons (qe_var 1) qa_nil)))))))
theorem ok_bank_calls {P : Program} {w : World} {K : PySem.W.Frag} {mg : Str → Option Value} {base : Heap} (T : Txt K mg w) : Has P w K mg base 1 "_bank_calls" 1 m_bank_calls := has_of (N := ["thing", "places", "looks", "a", "b", "k"]) (ps := ["thing"]) (k := 0) T.d_bank_calls sc_bank_calls fun f cdv A outer s H E hr => (qss_cons (qs_set 1 sc_bank_calls.nd (qe_rng1 rfl T.n_range (qa_cons (qe_callB q_len rfl T.n_len PySem.boot_len (qa_cons (qe_ix q_ix (qe_var 0) qe_int) qa_nil)) qa_nil))) (qss_cons (qs_comp (own := [("a", 3)]) 2 rfl sc_bank_calls.nd (qi_rngV (qe_var 1)) (blkOk_by (N := ["thing", "places", "looks", "a", "b", "k"]) (sc := defScope s_bank_calls) (own := [("a", 3)]) (by decide +kernel)) (fun _ _ _ _ _ => (qg_name 3 sc_bank_calls.nd)) (fun _ _ _ _ _ => qts_nil) (fun _ _ _ _ _ => (qe_tup (qa_cons qe_str (qa_cons (qe_var 3) qa_nil)))) (sw_true rfl rfl rfl (by decide +kernel))) (qss_one (qs_ret (qe_op q_add (qe_var 2) (qe_compN (own := [("a", 3), ("b", 4), ("k", 5)]) rfl sc_bank_calls.nd (qi_rngV (qe_var 1)) (blkOk_by (N := ["thing", "places", "looks", "a", "b", "k"]) (sc := defScope s_bank_calls) (own := [("a", 3), ("b", 4), ("k", 5)]) (by decide +kernel)) (fun _ _ _ _ _ => (qg_name 3 sc_bank_calls.nd)) (fun _ _ _ _ _ => qts_nil) (fun _ _ _ _ _ => (qb_more (is := [4, 5]) rfl rfl (qi_rngV (qe_var 1)) (qg_name 4 sc_bank_calls.nd) (qts_one (qt_cmp (q_ne (hu64 hr)).op (qe_var 3) (qe_var 4))) (qb_more (is := [5]) rfl rfl (qi_range2 rfl T.n_range (qa_cons qe_int (qa_cons qe_int qa_nil))) (qg_name 5 sc_bank_calls.nd) qts_nil (qb_last rfl (qe_tup (qa_cons qe_str (qa_cons (qe_var 3) (qa_cons (qe_var 4) (qa_cons (qe_var 5) qa_nil))))) []))))))))))
theorem ok_table_calls {P : Program} {w : World} {K : PySem.W.Frag} {mg : Str → Option Value} {base : Heap} (T : Txt K mg w) : Has P w K mg base 1 "_table_calls" 1 m_table_calls := has_of (N := ["thing", "c"]) (ps := ["thing"]) (k := 0) T.d_table_calls sc_table_calls fun f cdv A outer s H E hr => (qss_one (qs_ret (qe_comp (own := [("c", 1)]) rfl sc_table_calls.nd (qi_range1 rfl T.n_range (qa_cons (qe_callB q_len rfl T.n_len PySem.boot_len (qa_cons (qe_ix q_ix (qe_ix q_ix (qe_var 0) qe_int) qe_int) qa_nil)) qa_nil)) (blkOk_by (N := ["thing", "c"]) (sc := defScope s_table_calls) (own := [("c", 1)]) (by decide +kernel)) (fun _ _ _ _ _ => (qg_name 1 sc_table_calls.nd)) (fun _ _ _ _ _ => qts_nil) (fun _ _ _ _ _ => (qe_tup (qa_cons qe_str (qa_cons (qe_var 1) qa_nil)))))))
theorem ok_call_rows {P : Program} {w : World} {K : PySem.W.Frag} {mg : Str → Option Value} {base : Heap} (T : Txt K mg w) : Has P w K mg base 2 "call_rows" 1 m_call_rows := has_of (N := ["thing", "action"]) (ps := ["thing"]) (k := 1) T.d_call_rows sc_call_rows fun f cdv A outer s H E hr => (qss_cons (qs_set 1 sc_call_rows.nd (qe_tab T.t_CALLS rfl (qe_ix q_ix (qe_var 0) qe_int))) (qss_one (qs_ret (qe_callV 1 (vt_cons (Has.mono (ok_counter_calls T) (by decide)) (vt_cons (Has.mono (ok_register_calls T) (by decide)) (vt_cons (Has.mono (ok_stack_calls T) (by decide)) (vt_cons (Has.mono (ok_queue_calls T) (by decide)) (vt_cons (Has.mono (ok_set_calls T) (by decide)) (vt_cons (Has.mono (ok_agree_calls T) (by decide)) (vt_cons (Has.mono (ok_bank_calls T) (by decide)) (vt_cons (Has.mono (ok_table_calls T) (by decide)) vt_nil)))))))) hr (takes_of rfl rfl rfl rfl) (qa_cons (qe_var 0) qa_nil)))))
theorem ok_has_call {P : Program} {w : World} {K : PySem.W.Frag} {mg : Str → Option Value} {base : Heap} (T : Txt K mg w) : Has P w K mg base 8 "has_call" 2 m_has_call := has_of (N := ["thing", "value", "call"]) (ps := ["thing", "value"]) (k := 7) T.d_has_call sc_has_call fun f cdv A outer s H E hr => (qss_one (qs_ret (qe_callB (q_any rfl) rfl T.n_any boot_any (qa_cons (qe_comp (own := [("call", 2)]) rfl sc_has_call.nd (qi_sq (qe_call (ok_call_rows T) (hr.mono (by decide)) (takes_of rfl rfl rfl rfl) rfl (qa_cons (qe_var 0) qa_nil))) (blkOk_by (N := ["thing", "value", "call"]) (sc := defScope s_has_call) (own := [("call", 2)]) (by decide +kernel)) (fun _ _ _ _ _ => (qg_name 2 sc_has_call.nd)) (fun _ _ _ _ _ => qts_nil) (fun _ _ _ _ _ => (qe_call (ok_same T) (hr.mono (by decide)) takes0 rfl (qa_cons (qe_var 2) (qa_cons (qe_var 1) qa_nil))))) qa_nil))))
theorem ok_is_thread {P : Program} {w : World} {K : PySem.W.Frag} {mg : Str → Option Value} {base : Heap} (T : Txt K mg w) : Has P w K mg base 3 "is_thread" 1 m_is_thread := has_of (N := ["value"]) (ps := ["value"]) (k := 2) T.d_is_thread sc_is_thread fun f cdv A outer s H E hr => (qss_one (qs_ret (qe_call (ok_is_within T) (hr.mono (by decide)) (takes_of rfl rfl rfl rfl) rfl (qa_cons (qe_var 0) (qa_cons qe_int (qa_cons (qe_op q_sub (qe_gint T.g_THREADS rfl) qe_int) qa_nil))))))
theorem ok_is_answer {P : Program} {w : World} {K : PySem.W.Frag} {mg : Str → Option Value} {base : Heap} (T : Txt K mg w) : Has P w K mg base 1 "_is_answer" 1 m_is_answer := has_of (N := ["value"]) (ps := ["value"]) (k := 0) T.d_is_answer sc_is_answer fun f cdv A outer s H E hr => (qss_one (qs_ret (qe_or (qe_cmp q_is.op (qe_var 0) qe_non) (qe_one (qe_isi .int (qe_var 0) rfl T.n_isinstance rfl T.n_int PyProof.Rows.boot_int (by decide) (by decide))))))
theorem ok_can_come {P : Program} {w : World} {K : PySem.W.Frag} {mg : Str → Option Value} {base : Heap} (T : Txt K mg w) : Has P w K mg base 9 "_can_come" 3 m_can_come := has_of (N := ["things", "places", "event", "word", "thread", "place", "told"]) (ps := ["things", "places", "event"]) (k := 8) T.d_can_come sc_can_come fun f cdv A outer s H E hr => (qss_cons (qs_if (QW.qt (qw_or (qt_not (qt_val (qe_isi .tup (qe_var 2) rfl T.n_isinstance rfl T.n_tuple PyProof.Rows.boot_tuple (by decide) (by decide)))) (qw_or1 (qt_cmp (q_ne (hu64 hr)).op (qe_callB q_len rfl T.n_len PySem.boot_len (qa_cons (qe_var 2) qa_nil)) qe_int)))) (qss_one (qs_ret qe_bl)) qss_nil) (qss_cons (qs_asg (qe_var 2) (qg_tup rfl (qgs_cons (qg_name 3 sc_can_come.nd) (qgs_cons (qg_name 4 sc_can_come.nd) (qgs_cons (qg_name 5 sc_can_come.nd) (qgs_cons (qg_name 6 sc_can_come.nd) qgs_nil)))))) (qss_cons (qs_if (QW.qt (qw_or (qt_not (qt_val (qe_call (ok_is_thread T) (hr.mono (by decide)) (takes_of rfl rfl rfl rfl) rfl (qa_cons (qe_var 4) qa_nil)))) (qw_or1 (qt_not (qt_val (qe_call (ok_is_within T) (hr.mono (by decide)) (takes_of rfl rfl rfl rfl) rfl (qa_cons (qe_var 5) (qa_cons qe_int (qa_cons (qe_op q_sub (qe_callB q_len rfl T.n_len PySem.boot_len (qa_cons (qe_var 0) qa_nil)) qe_int) qa_nil))))))))) (qss_one (qs_ret qe_bl)) qss_nil) (qss_cons (qs_if (qt_val (qe_call (ok_same T) (hr.mono (by decide)) (takes_of rfl rfl rfl rfl) rfl (qa_cons (qe_var 3) (qa_cons qe_str qa_nil)))) (qss_one (qs_ret (qe_and (qe_dIn true (hu64 hr) (qe_var 4) (qe_var 1)) (qe_one (qe_call (ok_has_call T) (hr.mono (by decide)) (takes_of rfl rfl rfl rfl) rfl (qa_cons (qe_ix q_ix (qe_var 0) (qe_var 5)) (qa_cons (qe_var 6) qa_nil))))))) qss_nil) (qss_one (qs_ret (qe_and (qe_call (ok_same T) (hr.mono (by decide)) (takes_of rfl rfl rfl rfl) rfl (qa_cons (qe_var 3) (qa_cons qe_str qa_nil))) (qe_and (qe_dIn false (hu64 hr) (qe_var 4) (qe_var 1)) (qe_and (qe_cmp (q_eq (hu64 hr)).op (qe_dGet (hu64 hr) (qe_var 1) (qe_var 4)) (qe_var 5)) (qe_one (qe_call (ok_is_answer T) (hr.mono (by decide)) (takes_of rfl rfl rfl rfl) rfl (qa_cons (qe_var 6) qa_nil))))))))))))
theorem ok_wrong_place {P : Program} {w : World} {K : PySem.W.Frag} {mg : Str → Option Value} {base : Heap} (T : Txt K mg w) : Has P w K mg base 10 "wrong_place" 2 m_wrong_place := has_of (N := ["things", "wide", "places", "at", "event"]) (ps := ["things", "wide"]) (k := 9) T.d_wrong_place sc_wrong_place fun f cdv A outer s H E hr => (qss_cons (qs_set 2 sc_wrong_place.nd qe_k0) (qss_cons (qs_forM 200 (passes_of rfl) rfl (qi_enum rfl T.n_enumerate (qa_cons (qe_var 1) qa_nil)) (qg_tup rfl (qgs_cons (qg_name 3 sc_wrong_place.nd) (qgs_cons (qg_name 4 sc_wrong_place.nd) qgs_nil))) (qss_cons (qs_if (QW.qt (qw_or (qt_cmp (q_eq (hu64 hr)).op (qe_var 3) (qe_gint T.g_MOST_EVENTS rfl)) (qw_or1 (qt_not (qt_val (qe_call (ok_can_come T) (hr.mono (by decide)) (takes_of rfl rfl rfl rfl) rfl (qa_cons (qe_var 0) (qa_cons (qe_var 2) (qa_cons (qe_var 4) qa_nil))))))))) (qss_one (qs_ret (qe_var 3))) qss_nil) (qss_one (qs_if (qt_cmp (q_eq (hu64 hr)).op (qe_ix q_ix (qe_var 4) qe_int) qe_str) (qss_one (qs_dSet (hu64 hr) (qe_ix q_ix (qe_var 4) qe_int) (qe_var 2) (qe_ix q_ix (qe_var 4) qe_int))) (qss_one (qs_del (hu64 hr) (qe_var 2) (qe_ix q_ix (qe_var 4) qe_int))))))) (qss_one (qs_ret qe_non))))
theorem ok_has_wide_history {P : Program} {w : World} {K : PySem.W.Frag} {mg : Str → Option Value} {base : Heap} (T : Txt K mg w) : Has P w K mg base 11 "has_wide_history" 2 m_has_wide_history := has_of (N := ["things", "value"]) (ps := ["things", "value"]) (k := 10) T.d_has_wide_history sc_has_wide_history fun f cdv A outer s H E hr => (qss_one (qs_ret (qe_and (qe_isi .tup (qe_var 1) rfl T.n_isinstance rfl T.n_tuple PyProof.Rows.boot_tuple (by decide) (by decide)) (qe_one (qe_cmp q_is.op (qe_call (ok_wrong_place T) (hr.mono (by decide)) (takes_of rfl rfl rfl rfl) rfl (qa_cons (qe_var 0) (qa_cons (qe_var 1) qa_nil))) qe_non)))))
theorem ok_has_size {P : Program} {w : World} {K : PySem.W.Frag} {mg : Str → Option Value} {base : Heap} (T : Txt K mg w) : Has P w K mg base 3 "_has_size" 1 m_has_size := has_of (N := ["value"]) (ps := ["value"]) (k := 2) T.d_has_size sc_has_size fun f cdv A outer s H E hr => (qss_one (qs_ret (qe_and (qe_cmp (q_eq (hu64 hr)).op (qe_callB q_len rfl T.n_len PySem.boot_len (qa_cons (qe_var 0) qa_nil)) qe_int) (qe_one (qe_call (ok_is_within T) (hr.mono (by decide)) (takes_of rfl rfl rfl rfl) rfl (qa_cons (qe_ix q_ix (qe_var 0) qe_int) (qa_cons qe_int (qa_cons qe_int qa_nil))))))))
theorem ok_has_room_and_size {P : Program} {w : World} {K : PySem.W.Frag} {mg : Str → Option Value} {base : Heap} (T : Txt K mg w) : Has P w K mg base 3 "_has_room_and_size" 1 m_has_room_and_size := has_of (N := ["value"]) (ps := ["value"]) (k := 2) T.d_has_room_and_size sc_has_room_and_size fun f cdv A outer s H E hr => (qss_one (qs_ret (qe_and (qe_cmp (q_eq (hu64 hr)).op (qe_callB q_len rfl T.n_len PySem.boot_len (qa_cons (qe_var 0) qa_nil)) qe_int) (qe_and (qe_call (ok_is_within T) (hr.mono (by decide)) (takes_of rfl rfl rfl rfl) rfl (qa_cons (qe_ix q_ix (qe_var 0) qe_int) (qa_cons qe_int (qa_cons qe_int qa_nil)))) (qe_one (qe_call (ok_is_within T) (hr.mono (by decide)) (takes_of rfl rfl rfl rfl) rfl (qa_cons (qe_ix q_ix (qe_var 0) qe_int) (qa_cons qe_int (qa_cons qe_int qa_nil)))))))))
theorem ok_are_within {P : Program} {w : World} {K : PySem.W.Frag} {mg : Str → Option Value} {base : Heap} (T : Txt K mg w) : Has P w K mg base 3 "are_within" 3 m_are_within := has_of (N := ["value", "low", "high", "part"]) (ps := ["value", "low", "high"]) (k := 2) T.d_are_within sc_are_within fun f cdv A outer s H E hr => (qss_one (qs_ret (qe_and (qe_isi .tup (qe_var 0) rfl T.n_isinstance rfl T.n_tuple PyProof.Rows.boot_tuple (by decide) (by decide)) (qe_one (qe_callB (q_all rfl) rfl T.n_all boot_all (qa_cons (qe_comp (own := [("part", 3)]) rfl sc_are_within.nd (qi_sq (qe_var 0)) (blkOk_by (N := ["value", "low", "high", "part"]) (sc := defScope s_are_within) (own := [("part", 3)]) (by decide +kernel)) (fun _ _ _ _ _ => (qg_name 3 sc_are_within.nd)) (fun _ _ _ _ _ => qts_nil) (fun _ _ _ _ _ => (qe_call (ok_is_within T) (hr.mono (by decide)) takes0 rfl (qa_cons (qe_var 3) (qa_cons (qe_var 1) (qa_cons (qe_var 2) qa_nil)))))) qa_nil))))))
theorem ok_has_amounts {P : Program} {w : World} {K : PySem.W.Frag} {mg : Str → Option Value} {base : Heap} (T : Txt K mg w) : Has P w K mg base 4 "_has_amounts" 1 m_has_amounts := has_of (N := ["value"]) (ps := ["value"]) (k := 3) T.d_has_amounts sc_has_amounts fun f cdv A outer s H E hr => (qss_one (qs_ret (qe_and (qe_cmp (q_eq (hu64 hr)).op (qe_callB q_len rfl T.n_len PySem.boot_len (qa_cons (qe_var 0) qa_nil)) qe_int) (qe_and (qe_call (ok_are_within T) (hr.mono (by decide)) (takes_of rfl rfl rfl rfl) rfl (qa_cons (qe_ix q_ix (qe_var 0) qe_int) (qa_cons qe_int (qa_cons qe_int qa_nil)))) (qe_one (qe_chain q_le q_le qe_int (qe_callB q_len rfl T.n_len PySem.boot_len (qa_cons (qe_ix q_ix (qe_var 0) qe_int) qa_nil)) qe_int))))))
theorem ok_is_pair {P : Program} {w : World} {K : PySem.W.Frag} {mg : Str → Option Value} {base : Heap} (T : Txt K mg w) : Has P w K mg base 3 "_is_pair" 2 m_is_pair := has_of (N := ["value", "many"]) (ps := ["value", "many"]) (k := 2) T.d_is_pair sc_is_pair fun f cdv A outer s H E hr => (qss_cons (qs_if (QW.qt (qw_or (qt_not (qt_val (qe_isi .tup (qe_var 0) rfl T.n_isinstance rfl T.n_tuple PyProof.Rows.boot_tuple (by decide) (by decide)))) (qw_or1 (qt_cmp (q_ne (hu64 hr)).op (qe_callB q_len rfl T.n_len PySem.boot_len (qa_cons (qe_var 0) qa_nil)) qe_int)))) (qss_one (qs_ret qe_bl)) qss_nil) (qss_one (qs_ret (qe_and (qe_call (ok_is_within T) (hr.mono (by decide)) (takes_of rfl rfl rfl rfl) rfl (qa_cons (qe_ix q_ix (qe_var 0) qe_int) (qa_cons qe_int (qa_cons (qe_op q_sub (qe_var 1) qe_int) qa_nil)))) (qe_one (qe_call (ok_is_within T) (hr.mono (by decide)) (takes_of rfl rfl rfl rfl) rfl (qa_cons (qe_ix q_ix (qe_var 0) qe_int) (qa_cons qe_int (qa_cons qe_int qa_nil)))))))))
theorem ok_is_row {P : Program} {w : World} {K : PySem.W.Frag} {mg : Str → Option Value} {base : Heap} (T : Txt K mg w) : Has P w K mg base 4 "_is_row" 2 m_is_row := has_of (N := ["value", "many", "pair"]) (ps := ["value", "many"]) (k := 3) T.d_is_row sc_is_row fun f cdv A outer s H E hr => (qss_cons (qs_if (QW.qt (qw_or (qt_not (qt_val (qe_isi .tup (qe_var 0) rfl T.n_isinstance rfl T.n_tuple PyProof.Rows.boot_tuple (by decide) (by decide)))) (qw_or1 (qt_not (qt_chain q_le q_le qe_int (qe_callB q_len rfl T.n_len PySem.boot_len (qa_cons (qe_var 0) qa_nil)) qe_int))))) (qss_one (qs_ret qe_bl)) qss_nil) (qss_one (qs_ret (qe_callB (q_all rfl) rfl T.n_all boot_all (qa_cons (qe_comp (own := [("pair", 2)]) rfl sc_is_row.nd (qi_sq (qe_var 0)) (blkOk_by (N := ["value", "many", "pair"]) (sc := defScope s_is_row) (own := [("pair", 2)]) (by decide +kernel)) (fun _ _ _ _ _ => (qg_name 2 sc_is_row.nd)) (fun _ _ _ _ _ => qts_nil) (fun _ _ _ _ _ => (qe_call (ok_is_pair T) (hr.mono (by decide)) takes0 rfl (qa_cons (qe_var 2) (qa_cons (qe_var 1) qa_nil))))) qa_nil)))))
theorem ok_has_rows {P : Program} {w : World} {K : PySem.W.Frag} {mg : Str → Option Value} {base : Heap} (T : Txt K mg w) : Has P w K mg base 5 "_has_rows" 1 m_has_rows := has_of (N := ["value", "rows", "row"]) (ps := ["value"]) (k := 4) T.d_has_rows sc_has_rows fun f cdv A outer s H E hr => (qss_cons (qs_if (QW.qt (qw_or (qt_cmp (q_ne (hu64 hr)).op (qe_callB q_len rfl T.n_len PySem.boot_len (qa_cons (qe_var 0) qa_nil)) qe_int) (qw_or1 (qt_not (qt_val (qe_isi .tup (qe_ix q_ix (qe_var 0) qe_int) rfl T.n_isinstance rfl T.n_tuple PyProof.Rows.boot_tuple (by decide) (by decide))))))) (qss_one (qs_ret qe_bl)) qss_nil) (qss_cons (qs_set 1 sc_has_rows.nd (qe_ix q_ix (qe_var 0) qe_int)) (qss_cons (qs_if (QW.qt (qw_or (qt_not (qt_chain q_le q_le qe_int (qe_callB q_len rfl T.n_len PySem.boot_len (qa_cons (qe_var 1) qa_nil)) qe_int)) (qw_or1 (qt_not (qt_val (qe_callB (q_all rfl) rfl T.n_all boot_all (qa_cons (qe_comp (own := [("row", 2)]) rfl sc_has_rows.nd (qi_sq (qe_var 1)) (blkOk_by (N := ["value", "rows", "row"]) (sc := defScope s_has_rows) (own := [("row", 2)]) (by decide +kernel)) (fun _ _ _ _ _ => (qg_name 2 sc_has_rows.nd)) (fun _ _ _ _ _ => qts_nil) (fun _ _ _ _ _ => (qe_call (ok_is_row T) (hr.mono (by decide)) takes0 rfl (qa_cons (qe_var 2) (qa_cons (qe_callB q_len rfl T.n_len PySem.boot_len (qa_cons (qe_var 1) qa_nil)) qa_nil))))) qa_nil))))))) (qss_one (qs_ret qe_bl)) qss_nil) (qss_one (qs_ret (qe_callB (q_all rfl) rfl T.n_all boot_all (qa_cons (qe_comp (own := [("row", 2)]) rfl sc_has_rows.nd (qi_sq (qe_var 1)) (blkOk_by (N := ["value", "rows", "row"]) (sc := defScope s_has_rows) (own := [("row", 2)]) (by decide +kernel)) (fun _ _ _ _ _ => (qg_name 2 sc_has_rows.nd)) (fun _ _ _ _ _ => qts_nil) (fun _ _ _ _ _ => (qe_cmp (q_eq (hu64 hr)).op (qe_callB q_len rfl T.n_len PySem.boot_len (qa_cons (qe_var 2) qa_nil)) (qe_callB q_len rfl T.n_len PySem.boot_len (qa_cons (qe_ix q_ix (qe_var 1) qe_int) qa_nil))))) qa_nil)))))))
theorem ok_has_form {P : Program} {w : World} {K : PySem.W.Frag} {mg : Str → Option Value} {base : Heap} (T : Txt K mg w) : Has P w K mg base 6 "has_form" 1 m_has_form := has_of (N := ["value", "form"]) (ps := ["value"]) (k := 5) T.d_has_form sc_has_form fun f cdv A outer s H E hr => (qss_cons (qs_if (QW.qt (qw_or (qt_not (qt_val (qe_isi .tup (qe_var 0) rfl T.n_isinstance rfl T.n_tuple PyProof.Rows.boot_tuple (by decide) (by decide)))) (qw_or (qt_cmp (q_eq (hu64 hr)).op (qe_callB q_len rfl T.n_len PySem.boot_len (qa_cons (qe_var 0) qa_nil)) qe_int) (qw_or1 (qt_not (qt_val (qe_isi .str (qe_ix q_ix (qe_var 0) qe_int) rfl T.n_isinstance rfl T.n_str PyProof.Rows.boot_str (by decide) (by decide)))))))) (qss_one (qs_ret qe_bl)) qss_nil) (qss_cons (qs_if (qt_inTab true T.t_FORMS rfl (qe_ix q_ix (qe_var 0) qe_int)) (qss_one (qs_ret qe_bl)) qss_nil) (qss_cons (qs_set 1 sc_has_form.nd (qe_tab T.t_FORMS rfl (qe_ix q_ix (qe_var 0) qe_int))) (qss_one (qs_ret (qe_callV 1 (vt_cons (Has.mono (ok_has_size T) (by decide)) (vt_cons (Has.mono (ok_has_room_and_size T) (by decide)) (vt_cons (Has.mono (ok_has_amounts T) (by decide)) (vt_cons (Has.mono (ok_has_rows T) (by decide)) vt_nil)))) hr (takes_of rfl rfl rfl rfl) (qa_cons (qe_var 0) qa_nil)))))))
theorem ok_check_object {P : Program} {w : World} {K : PySem.W.Frag} {mg : Str → Option Value} {base : Heap} (T : Txt K mg w) : Has P w K mg base 7 "check_object" 1 m_check_object := has_of (N := ["value"]) (ps := ["value"]) (k := 6) T.d_check_object sc_check_object fun f cdv A outer s H E hr => (qss_one (qs_if (qt_not (qt_val (qe_call (ok_has_form T) (hr.mono (by decide)) (takes_of rfl rfl rfl rfl) rfl (qa_cons (qe_var 0) qa_nil)))) (qss_one qs_fail) qss_nil))
theorem ok_check_things {P : Program} {w : World} {K : PySem.W.Frag} {mg : Str → Option Value} {base : Heap} (T : Txt K mg w) : Has P w K mg base 8 "check_things" 1 m_check_things := has_of (N := ["value", "thing"]) (ps := ["value"]) (k := 7) T.d_check_things sc_check_things fun f cdv A outer s H E hr => (qss_cons (qs_if (QW.qt (qw_or (qt_not (qt_val (qe_isi .tup (qe_var 0) rfl T.n_isinstance rfl T.n_tuple PyProof.Rows.boot_tuple (by decide) (by decide)))) (qw_or1 (qt_not (qt_chain q_le q_le qe_int (qe_callB q_len rfl T.n_len PySem.boot_len (qa_cons (qe_var 0) qa_nil)) (qe_gint T.g_MOST_OBJECTS rfl)))))) (qss_one qs_fail) qss_nil) (qss_one (qs_for (passes_of rfl) rfl (qi_sq (qe_var 0)) (qg_name 1 sc_check_things.nd) (qss_one (qs_expr (qe_call (ok_check_object T) (hr.mono (by decide)) (takes_of rfl rfl rfl rfl) rfl (qa_cons (qe_var 1) qa_nil)))))))
theorem ok_is_wide_history {P : Program} {w : World} {K : PySem.W.Frag} {mg : Str → Option Value} {base : Heap} (T : Txt K mg w) : Has P w K mg base 12 "is_wide_history" 2 m_is_wide_history := has_of (N := ["things", "value"]) (ps := ["things", "value"]) (k := 11) T.d_is_wide_history sc_is_wide_history fun f cdv A outer s H E hr => (qss_cons (qs_expr (qe_call (ok_check_things T) (hr.mono (by decide)) (takes_of rfl rfl rfl rfl) rfl (qa_cons (qe_var 0) qa_nil))) (qss_one (qs_ret (qe_call (ok_has_wide_history T) (hr.mono (by decide)) (takes_of rfl rfl rfl rfl) rfl (qa_cons (qe_var 0) (qa_cons (qe_var 1) qa_nil))))))
theorem ok_check_wide_history {P : Program} {w : World} {K : PySem.W.Frag} {mg : Str → Option Value} {base : Heap} (T : Txt K mg w) : Has P w K mg base 11 "check_wide_history" 2 m_check_wide_history := has_of (N := ["things", "value", "at"]) (ps := ["things", "value"]) (k := 10) T.d_check_wide_history sc_check_wide_history fun f cdv A outer s H E hr => (qss_cons (qs_if (qt_not (qt_val (qe_isi .tup (qe_var 1) rfl T.n_isinstance rfl T.n_tuple PyProof.Rows.boot_tuple (by decide) (by decide)))) (qss_one qs_fail) qss_nil) (qss_cons (qs_set 2 sc_check_wide_history.nd (qe_call (ok_wrong_place T) (hr.mono (by decide)) (takes_of rfl rfl rfl rfl) rfl (qa_cons (qe_var 0) (qa_cons (qe_var 1) qa_nil)))) (qss_one (qs_if (qt_cmp q_isNot.op (qe_var 2) qe_non) (qss_one qs_fail) qss_nil))))
theorem ok_check {P : Program} {w : World} {K : PySem.W.Frag} {mg : Str → Option Value} {base : Heap} (T : Txt K mg w) : Has P w K mg base 12 "_check" 2 m_check := has_of (N := ["things", "history"]) (ps := ["things", "history"]) (k := 11) T.d_check sc_check fun f cdv A outer s H E hr => (qss_cons (qs_expr (qe_call (ok_check_things T) (hr.mono (by decide)) (takes_of rfl rfl rfl rfl) rfl (qa_cons (qe_var 0) qa_nil))) (qss_one (qs_expr (qe_call (ok_check_wide_history T) (hr.mono (by decide)) (takes_of rfl rfl rfl rfl) rfl (qa_cons (qe_var 0) (qa_cons (qe_var 1) qa_nil))))))
theorem ok_narrowed {P : Program} {w : World} {K : PySem.W.Frag} {mg : Str → Option Value} {base : Heap} (T : Txt K mg w) : Has P w K mg base 1 "narrowed" 2 m_narrowed := has_of (N := ["wide", "place", "event"]) (ps := ["wide", "place"]) (k := 0) T.d_narrowed sc_narrowed fun f cdv A outer s H E hr => (qss_one (qs_ret (qe_callTy q_tuple rfl T.n_tuple PyProof.Rows.boot_tuple (qa_cons (qe_comp (own := [("event", 2)]) rfl sc_narrowed.nd (qi_sq (qe_var 0)) (blkOk_by (N := ["wide", "place", "event"]) (sc := defScope s_narrowed) (own := [("event", 2)]) (by decide +kernel)) (fun _ _ _ _ _ => (qg_name 2 sc_narrowed.nd)) (fun _ _ _ _ _ => (qts_one (qt_cmp (q_eq (hu64 hr)).op (qe_ix q_ix (qe_var 2) qe_int) (qe_var 1)))) (fun _ _ _ _ _ => (qe_op q_add (qe_slice (qe_var 2) qo_none (qo_some qe_int)) (qe_slice (qe_var 2) (qo_some qe_int) qo_none)))) qa_nil))))
theorem ok_all_parts {P : Program} {w : World} {K : PySem.W.Frag} {mg : Str → Option Value} {base : Heap} (T : Txt K mg w) : Has P w K mg base 2 "_all_parts" 2 m_all_parts := has_of (N := ["things", "history", "place"]) (ps := ["things", "history"]) (k := 1) T.d_all_parts sc_all_parts fun f cdv A outer s H E hr => (qss_one (qs_ret (qe_callTy q_tuple rfl T.n_tuple PyProof.Rows.boot_tuple (qa_cons (qe_comp (own := [("place", 2)]) rfl sc_all_parts.nd (qi_range1 rfl T.n_range (qa_cons (qe_callB q_len rfl T.n_len PySem.boot_len (qa_cons (qe_var 0) qa_nil)) qa_nil)) (blkOk_by (N := ["things", "history", "place"]) (sc := defScope s_all_parts) (own := [("place", 2)]) (by decide +kernel)) (fun _ _ _ _ _ => (qg_name 2 sc_all_parts.nd)) (fun _ _ _ _ _ => qts_nil) (fun _ _ _ _ _ => (qe_call (ok_narrowed T) (hr.mono (by decide)) takes0 rfl (qa_cons (qe_var 1) (qa_cons (qe_var 2) qa_nil))))) qa_nil))))
theorem ok_parts {P : Program} {w : World} {K : PySem.W.Frag} {mg : Str → Option Value} {base : Heap} (T : Txt K mg w) : Has P w K mg base 13 "parts" 2 m_parts := has_of (N := ["things", "history"]) (ps := ["things", "history"]) (k := 12) T.d_parts sc_parts fun f cdv A outer s H E hr => (qss_cons (qs_expr (qe_call (ok_check T) (hr.mono (by decide)) (takes_of rfl rfl rfl rfl) rfl (qa_cons (qe_var 0) (qa_cons (qe_var 1) qa_nil)))) (qss_one (qs_ret (qe_call (ok_all_parts T) (hr.mono (by decide)) (takes_of rfl rfl rfl rfl) rfl (qa_cons (qe_var 0) (qa_cons (qe_var 1) qa_nil))))))
theorem ok_widened_event {P : Program} {w : World} {K : PySem.W.Frag} {mg : Str → Option Value} {base : Heap} (T : Txt K mg w) : Has P w K mg base 1 "_widened_event" 1 m_widened_event := has_of (N := ["event"]) (ps := ["event"]) (k := 0) T.d_widened_event sc_widened_event fun f cdv A outer s H E hr => (qss_cons (qs_if (qt_not (qt_val (qe_isi .tup (qe_var 0) rfl T.n_isinstance rfl T.n_tuple PyProof.Rows.boot_tuple (by decide) (by decide)))) (qss_one (qs_ret (qe_var 0))) qss_nil) (qss_one (qs_ret (qe_op q_add (qe_op q_add (qe_slice (qe_var 0) qo_none (qo_some qe_int)) (qe_tup (qa_cons qe_int qa_nil))) (qe_slice (qe_var 0) (qo_some qe_int) qo_none)))))
theorem ok_widened {P : Program} {w : World} {K : PySem.W.Frag} {mg : Str → Option Value} {base : Heap} (T : Txt K mg w) : Has P w K mg base 2 "widened" 1 m_widened := has_of (N := ["history", "event"]) (ps := ["history"]) (k := 1) T.d_widened sc_widened fun f cdv A outer s H E hr => (qss_one (qs_ret (qe_callTy q_tuple rfl T.n_tuple PyProof.Rows.boot_tuple (qa_cons (qe_comp (own := [("event", 1)]) rfl sc_widened.nd (qi_sq (qe_var 0)) (blkOk_by (N := ["history", "event"]) (sc := defScope s_widened) (own := [("event", 1)]) (by decide +kernel)) (fun _ _ _ _ _ => (qg_name 1 sc_widened.nd)) (fun _ _ _ _ _ => qts_nil) (fun _ _ _ _ _ => (qe_call (ok_widened_event T) (hr.mono (by decide)) takes0 rfl (qa_cons (qe_var 1) qa_nil)))) qa_nil))))
theorem ok_Span_init {P : Program} {w : World} {K : PySem.W.Frag} {mg : Str → Option Value} {base : Heap} (T : Txt K mg w) : HasI P w K mg base 1 "Span" 5 m_Span_init := hasI_of (N := ["self", "thread", "place", "call", "begin"]) (ps := ["self", "thread", "place", "call", "begin"]) (k := 0) T.i_Span sc_Span_init fun f cdv A outer s H E hr => (qss_cons (qs_fld T.c_Span T.a_Span_thread (qe_var 0) (qe_var 1)) (qss_cons (qs_fld T.c_Span T.a_Span_place (qe_var 0) (qe_var 2)) (qss_cons (qs_fld T.c_Span T.a_Span_call (qe_var 0) (qe_var 3)) (qss_cons (qs_fld T.c_Span T.a_Span_begin (qe_var 0) (qe_var 4)) (qss_cons (qs_fld T.c_Span T.a_Span_end (qe_var 0) qe_non) (qss_one (qs_fld T.c_Span T.a_Span_answer (qe_var 0) qe_non)))))))
theorem ok_spans_in {P : Program} {w : World} {K : PySem.W.Frag} {mg : Str → Option Value} {base : Heap} (T : Txt K mg w) : Has P w K mg base 3 "spans_in" 1 m_spans_in := has_ofK (N := ["wide", "found", "latest", "at", "word", "thread", "place", "told", "span"]) (ps := ["wide"]) (k := 2) T.d_spans_in sc_spans_in fun f cdv A outer s H E hr => (qss_cons (qs_set 1 sc_spans_in.nd (qe_mutQ qa_nil)) (qss_cons (qs_set 2 sc_spans_in.nd qe_w0) (qss_cons (qs_forM 200 (passes_of rfl) rfl (qi_enum rfl T.n_enumerate (qa_cons (qe_var 0) qa_nil)) (qg_tup rfl (qgs_cons (qg_name 3 sc_spans_in.nd) (qgs_cons (qg_tup rfl (qgs_cons (qg_name 4 sc_spans_in.nd) (qgs_cons (qg_name 5 sc_spans_in.nd) (qgs_cons (qg_name 6 sc_spans_in.nd) (qgs_cons (qg_name 7 sc_spans_in.nd) qgs_nil))))) qgs_nil))) (qss_one (qs_if (qt_cmp (q_eq (hu64 hr)).op (qe_var 4) qe_str) (qss_cons (qs_wSet (qe_new (ok_Span_init T) (hr.mono (by decide)) rfl (qa_cons (qe_var 5) (qa_cons (qe_var 6) (qa_cons (qe_var 7) (qa_cons (qe_var 3) qa_nil))))) (qe_var 2) (qe_var 5)) (qss_one (qs_expr (qe_appendQ (qe_var 1) (qe_wGet (qe_var 2) (qe_var 5)))))) (qss_cons (qs_set 8 sc_spans_in.nd (qe_wGet (qe_var 2) (qe_var 5))) (qss_cons (qs_fld T.c_Span T.a_Span_end (qe_var 8) (qe_var 3)) (qss_one (qs_fld T.c_Span T.a_Span_answer (qe_var 8) (qe_var 7)))))))) (qss_one (qs_ret (qe_var 1))))))
theorem ok_is_ahead {P : Program} {w : World} {K : PySem.W.Frag} {mg : Str → Option Value} {base : Heap} (T : Txt K mg w) : Has P w K mg base 1 "_is_ahead" 2 m_is_ahead := has_of (N := ["one", "other"]) (ps := ["one", "other"]) (k := 0) T.d_is_ahead sc_is_ahead fun f cdv A outer s H E hr => (qss_one (qs_ret (qe_and (qe_cmp q_isNot.op (qe_fld T.c_Span T.a_Span_end (qe_var 0)) qe_non) (qe_one (qe_cmp q_lt.op (qe_fld T.c_Span T.a_Span_end (qe_var 0)) (qe_fld T.c_Span T.a_Span_begin (qe_var 1)))))))
theorem ok_ahead_of_each {P : Program} {w : World} {K : PySem.W.Frag} {mg : Str → Option Value} {base : Heap} (T : Txt K mg w) : Has P w K mg base 2 "ahead_of_each" 1 m_ahead_of_each := has_of (N := ["spans", "span", "at", "other"]) (ps := ["spans"]) (k := 1) T.d_ahead_of_each sc_ahead_of_each fun f cdv A outer s H E hr => (qss_one (qs_ret (qe_compM .fr 200 (own := [("span", 1)]) rfl sc_ahead_of_each.nd (qi_read (qe_var 0)) (blkOk_by (N := ["spans", "span", "at", "other"]) (sc := defScope s_ahead_of_each) (own := [("span", 1)]) (by decide +kernel)) (fun _ _ _ _ _ => (qg_name 1 sc_ahead_of_each.nd)) (fun _ _ _ _ _ => qts_nil) (fun _ _ _ _ _ => (qe_callB (q_sum rfl) rfl T.n_sum PyProof.Rows.boot_sum (qa_cons (qe_compM .fr 200 (own := [("at", 2), ("other", 3)]) rfl sc_ahead_of_each.nd (qi_enum rfl T.n_enumerate (qa_cons (qe_var 0) qa_nil)) (blkOk_by (N := ["spans", "span", "at", "other"]) (sc := _) (own := [("at", 2), ("other", 3)]) (by rfl)) (fun _ _ _ _ _ => (qg_tup rfl (qgs_cons (qg_name 2 sc_ahead_of_each.nd) (qgs_cons (qg_name 3 sc_ahead_of_each.nd) qgs_nil)))) (fun _ _ _ _ _ => (qts_one (qt_val (qe_call (ok_is_ahead T) (hr.mono (by decide)) takes0 rfl (qa_cons (qe_var 3) (qa_cons (qe_var 1) qa_nil)))))) (fun _ _ _ _ _ => (qe_op q_shl qe_int (qe_var 2)))) qa_nil))))))
theorem ok_ended {P : Program} {w : World} {K : PySem.W.Frag} {mg : Str → Option Value} {base : Heap} (T : Txt K mg w) : Has P w K mg base 1 "_ended" 1 m_ended := has_of (N := ["spans", "at", "span"]) (ps := ["spans"]) (k := 0) T.d_ended sc_ended fun f cdv A outer s H E hr => (qss_one (qs_ret (qe_callB (q_sum rfl) rfl T.n_sum PyProof.Rows.boot_sum (qa_cons (qe_compM .fr 200 (own := [("at", 1), ("span", 2)]) rfl sc_ended.nd (qi_enum rfl T.n_enumerate (qa_cons (qe_var 0) qa_nil)) (blkOk_by (N := ["spans", "at", "span"]) (sc := defScope s_ended) (own := [("at", 1), ("span", 2)]) (by decide +kernel)) (fun _ _ _ _ _ => (qg_tup rfl (qgs_cons (qg_name 1 sc_ended.nd) (qgs_cons (qg_name 2 sc_ended.nd) qgs_nil)))) (fun _ _ _ _ _ => (qts_one (qt_cmp q_isNot.op (qe_fld T.c_Span T.a_Span_end (qe_var 2)) qe_non))) (fun _ _ _ _ _ => (qe_op q_shl qe_int (qe_var 1)))) qa_nil))))
theorem ok_start {P : Program} {w : World} {K : PySem.W.Frag} {mg : Str → Option Value} {base : Heap} (T : Txt K mg w) : Has P w K mg base 1 "start" 1 m_start := has_of (N := ["thing"]) (ps := ["thing"]) (k := 0) T.d_start sc_start fun f cdv A outer s H E hr => (qss_cons (qs_if (qt_cmp (q_eq (hu64 hr)).op (qe_ix q_ix (qe_var 0) qe_int) qe_str) (qss_one (qs_ret qe_non)) qss_nil) (qss_cons (qs_if (qt_cmp (q_eq (hu64 hr)).op (qe_ix q_ix (qe_var 0) qe_int) qe_str) (qss_one (qs_ret (qe_ix q_ix (qe_var 0) qe_int))) qss_nil) (qss_cons (qs_if (qt_cmp (q_in (hu65 hr)).op (qe_ix q_ix (qe_var 0) qe_int) (qe_tup (qa_cons qe_str (qa_cons qe_str (qa_cons qe_str qa_nil))))) (qss_one (qs_ret (qe_tup qa_nil))) qss_nil) (qss_one (qs_ret qe_int)))))
theorem ok_starts {P : Program} {w : World} {K : PySem.W.Frag} {mg : Str → Option Value} {base : Heap} (T : Txt K mg w) : Has P w K mg base 2 "_starts" 1 m_starts := has_of (N := ["things", "thing"]) (ps := ["things"]) (k := 1) T.d_starts sc_starts fun f cdv A outer s H E hr => (qss_one (qs_ret (qe_callTy q_tuple rfl T.n_tuple PyProof.Rows.boot_tuple (qa_cons (qe_comp (own := [("thing", 1)]) rfl sc_starts.nd (qi_sq (qe_var 0)) (blkOk_by (N := ["things", "thing"]) (sc := defScope s_starts) (own := [("thing", 1)]) (by decide +kernel)) (fun _ _ _ _ _ => (qg_name 1 sc_starts.nd)) (fun _ _ _ _ _ => qts_nil) (fun _ _ _ _ _ => (qe_call (ok_start T) (hr.mono (by decide)) takes0 rfl (qa_cons (qe_var 1) qa_nil)))) qa_nil))))
theorem ok_counter_step {P : Program} {w : World} {K : PySem.W.Frag} {mg : Str → Option Value} {base : Heap} (T : Txt K mg w) : Has P w K mg base 1 "_counter_step" 3 m_counter_step := has_of (N := ["thing", "state", "call"]) (ps := ["thing", "state", "call"]) (k := 0) T.d_counter_step sc_counter_step fun f cdv A outer s H E hr => (qss_cons (qs_if (qt_cmp (q_eq (hu64 hr)).op (qe_ix q_ix (qe_var 2) qe_int) qe_str) (qss_one (qs_ret (qe_tup (qa_cons (qe_var 1) (qa_cons (qe_var 1) qa_nil))))) qss_nil) (qss_one (qs_ret (qe_tup (qa_cons (qe_op q_mod (qe_op q_add (qe_var 1) (qe_ix q_ix (qe_var 2) qe_int)) (qe_ix q_ix (qe_var 0) qe_int)) (qa_cons (qe_var 1) qa_nil))))))
theorem ok_register_step {P : Program} {w : World} {K : PySem.W.Frag} {mg : Str → Option Value} {base : Heap} (T : Txt K mg w) : Has P w K mg base 1 "_register_step" 3 m_register_step := has_of (N := ["thing", "state", "call"]) (ps := ["thing", "state", "call"]) (k := 0) T.d_register_step sc_register_step fun f cdv A outer s H E hr => (qss_cons (qs_if (qt_cmp (q_eq (hu64 hr)).op (qe_ix q_ix (qe_var 2) qe_int) qe_str) (qss_one (qs_ret (qe_tup (qa_cons (qe_var 1) (qa_cons (qe_var 1) qa_nil))))) qss_nil) (qss_cons (qs_if (qt_cmp (q_eq (hu64 hr)).op (qe_ix q_ix (qe_var 2) qe_int) qe_str) (qss_one (qs_ret (qe_tup (qa_cons (qe_ix q_ix (qe_var 2) qe_int) (qa_cons qe_non qa_nil))))) qss_nil) (qss_one (qs_ret (qe_tup (qa_cons (qe_ix q_ix (qe_var 2) qe_int) (qa_cons (qe_var 1) qa_nil)))))))
theorem ok_put_at_end {P : Program} {w : World} {K : PySem.W.Frag} {mg : Str → Option Value} {base : Heap} (T : Txt K mg w) : Has P w K mg base 1 "_put_at_end" 3 m_put_at_end := has_of (N := ["thing", "state", "k"]) (ps := ["thing", "state", "k"]) (k := 0) T.d_put_at_end sc_put_at_end fun f cdv A outer s H E hr => (qss_cons (qs_if (qt_cmp (q_eq (hu64 hr)).op (qe_callB q_len rfl T.n_len PySem.boot_len (qa_cons (qe_var 1) qa_nil)) (qe_ix q_ix (qe_var 0) qe_int)) (qss_one (qs_ret (qe_tup (qa_cons (qe_var 1) (qa_cons qe_bl qa_nil))))) qss_nil) (qss_one (qs_ret (qe_tup (qa_cons (qe_op q_add (qe_var 1) (qe_tup (qa_cons (qe_var 2) qa_nil))) (qa_cons qe_bl qa_nil))))))
theorem ok_stack_step {P : Program} {w : World} {K : PySem.W.Frag} {mg : Str → Option Value} {base : Heap} (T : Txt K mg w) : Has P w K mg base 2 "_stack_step" 3 m_stack_step := has_of (N := ["thing", "state", "call"]) (ps := ["thing", "state", "call"]) (k := 1) T.d_stack_step sc_stack_step fun f cdv A outer s H E hr => (qss_cons (qs_if (qt_cmp (q_eq (hu64 hr)).op (qe_ix q_ix (qe_var 2) qe_int) qe_str) (qss_one (qs_ret (qe_call (ok_put_at_end T) (hr.mono (by decide)) (takes_of rfl rfl rfl rfl) rfl (qa_cons (qe_var 0) (qa_cons (qe_var 1) (qa_cons (qe_ix q_ix (qe_var 2) qe_int) qa_nil)))))) qss_nil) (qss_cons (qs_if (qt_cmp (q_eq (hu64 hr)).op (qe_callB q_len rfl T.n_len PySem.boot_len (qa_cons (qe_var 1) qa_nil)) qe_int) (qss_one (qs_ret (qe_tup (qa_cons (qe_var 1) (qa_cons qe_non qa_nil))))) qss_nil) (qss_one (qs_ret (qe_tup (qa_cons (qe_slice (qe_var 1) qo_none (qo_some (qe_un q_neg qe_int))) (qa_cons (qe_ix q_ix (qe_var 1) (qe_un q_neg qe_int)) qa_nil)))))))
theorem ok_queue_step {P : Program} {w : World} {K : PySem.W.Frag} {mg : Str → Option Value} {base : Heap} (T : Txt K mg w) : Has P w K mg base 2 "_queue_step" 3 m_queue_step := has_of (N := ["thing", "state", "call"]) (ps := ["thing", "state", "call"]) (k := 1) T.d_queue_step sc_queue_step fun f cdv A outer s H E hr => (qss_cons (qs_if (qt_cmp (q_eq (hu64 hr)).op (qe_ix q_ix (qe_var 2) qe_int) qe_str) (qss_one (qs_ret (qe_call (ok_put_at_end T) (hr.mono (by decide)) (takes_of rfl rfl rfl rfl) rfl (qa_cons (qe_var 0) (qa_cons (qe_var 1) (qa_cons (qe_ix q_ix (qe_var 2) qe_int) qa_nil)))))) qss_nil) (qss_cons (qs_if (qt_cmp (q_eq (hu64 hr)).op (qe_callB q_len rfl T.n_len PySem.boot_len (qa_cons (qe_var 1) qa_nil)) qe_int) (qss_one (qs_ret (qe_tup (qa_cons (qe_var 1) (qa_cons qe_non qa_nil))))) qss_nil) (qss_one (qs_ret (qe_tup (qa_cons (qe_slice (qe_var 1) (qo_some qe_int) qo_none) (qa_cons (qe_ix q_ix (qe_var 1) qe_int) qa_nil)))))))
theorem ok_set_step {P : Program} {w : World} {K : PySem.W.Frag} {mg : Str → Option Value} {base : Heap} (T : Txt K mg w) : Has P w K mg base 1 "_set_step" 3 m_set_step := has_of (N := ["thing", "state", "call", "held", "others", "word", "k", "member"]) (ps := ["thing", "state", "call"]) (k := 0) T.d_set_step sc_set_step fun f cdv A outer s H E hr => (qss_cons (qs_asg (qe_var 2) (qg_tup rfl (qgs_cons (qg_name 5 sc_set_step.nd) (qgs_cons (qg_name 6 sc_set_step.nd) qgs_nil)))) (qss_cons (qs_set 3 sc_set_step.nd (qe_cmp (q_in (hu65 hr)).op (qe_var 6) (qe_var 1))) (qss_cons (qs_if (qt_cmp (q_eq (hu64 hr)).op (qe_var 5) qe_str) (qss_one (qs_ret (qe_tup (qa_cons (qe_var 1) (qa_cons (qe_var 3) qa_nil))))) qss_nil) (qss_cons (qs_comp (own := [("member", 7)]) 4 rfl sc_set_step.nd (qi_sq (qe_var 1)) (blkOk_by (N := ["thing", "state", "call", "held", "others", "word", "k", "member"]) (sc := defScope s_set_step) (own := [("member", 7)]) (by decide +kernel)) (fun _ _ _ _ _ => (qg_name 7 sc_set_step.nd)) (fun _ _ _ _ _ => (qts_one (qt_cmp (q_ne (hu64 hr)).op (qe_var 7) (qe_var 6)))) (fun _ _ _ _ _ => (qe_var 7)) (sw_true rfl rfl rfl (by decide +kernel))) (qss_cons (qs_if (qt_cmp (q_eq (hu64 hr)).op (qe_var 5) qe_str) (qss_one (qs_ret (qe_tup (qa_cons (qe_callTy q_tuple rfl T.n_tuple PyProof.Rows.boot_tuple (qa_cons (qe_var 4) qa_nil)) (qa_cons (qe_var 3) qa_nil))))) qss_nil) (qss_one (qs_ret (qe_tup (qa_cons (qe_callTy q_tuple rfl T.n_tuple PyProof.Rows.boot_tuple (qa_cons (qe_callB (q_sorted (hu64 hr)) rfl T.n_sorted PyProof.Rows.boot_sorted (qa_cons (qe_op q_add (qe_var 4) (qe_lst (qa_cons (qe_var 6) qa_nil))) qa_nil)) qa_nil)) (qa_cons (qe_not (qe_var 3)) qa_nil))))))))))
theorem ok_agree_step {P : Program} {w : World} {K : PySem.W.Frag} {mg : Str → Option Value} {base : Heap} (T : Txt K mg w) : Has P w K mg base 1 "_agree_step" 3 m_agree_step := has_of (N := ["thing", "state", "call", "told"]) (ps := ["thing", "state", "call"]) (k := 0) T.d_agree_step sc_agree_step fun f cdv A outer s H E hr => (qss_cons (qs_set 3 sc_agree_step.nd (qe_ite (qt_cmp q_is.op (qe_var 1) qe_non) (qe_ix q_ix (qe_var 2) qe_int) (qe_var 1))) (qss_one (qs_ret (qe_tup (qa_cons (qe_var 3) (qa_cons (qe_var 3) qa_nil))))))
theorem ok_bank_step {P : Program} {w : World} {K : PySem.W.Frag} {mg : Str → Option Value} {base : Heap} (T : Txt K mg w) : Has P w K mg base 1 "_bank_step" 3 m_bank_step := has_of (N := ["thing", "state", "call", "amounts", "_", "giver", "taker", "many"]) (ps := ["thing", "state", "call"]) (k := 0) T.d_bank_step sc_bank_step fun f cdv A outer s H E hr => (qss_cons (qs_if (qt_cmp (q_eq (hu64 hr)).op (qe_ix q_ix (qe_var 2) qe_int) qe_str) (qss_one (qs_ret (qe_tup (qa_cons (qe_var 1) (qa_cons (qe_ix q_ix (qe_var 1) (qe_ix q_ix (qe_var 2) qe_int)) qa_nil))))) qss_nil) (qss_cons (qs_asg (qe_var 2) (qg_tup rfl (qgs_cons (qg_name 4 sc_bank_step.nd) (qgs_cons (qg_name 5 sc_bank_step.nd) (qgs_cons (qg_name 6 sc_bank_step.nd) (qgs_cons (qg_name 7 sc_bank_step.nd) qgs_nil)))))) (qss_cons (qs_if (qt_cmp q_lt.op (qe_ix q_ix (qe_var 1) (qe_var 5)) (qe_var 7)) (qss_one (qs_ret (qe_tup (qa_cons (qe_var 1) (qa_cons qe_bl qa_nil))))) qss_nil) (qss_cons (qs_set 3 sc_bank_step.nd (qe_mutL rfl T.n_list (qa_cons (qe_var 1) qa_nil))) (qss_cons (qs_putop ip_sub (qe_var 3) (qe_var 5) (qe_var 7)) (qss_cons (qs_putop ip_add (qe_var 3) (qe_var 6) (qe_var 7)) (qss_one (qs_ret (qe_tup (qa_cons (qe_callTy q_tuple rfl T.n_tuple PyProof.Rows.boot_tuple (qa_cons (qe_var 3) qa_nil)) (qa_cons qe_bl qa_nil)))))))))))
theorem ok_table_step {P : Program} {w : World} {K : PySem.W.Frag} {mg : Str → Option Value} {base : Heap} (T : Txt K mg w) : Has P w K mg base 1 "_table_step" 3 m_table_step := has_of (N := ["thing", "state", "call"]) (ps := ["thing", "state", "call"]) (k := 0) T.d_table_step sc_table_step fun f cdv A outer s H E hr => (qss_one (qs_ret (qe_ix q_ix (qe_ix q_ix (qe_ix q_ix (qe_var 0) qe_int) (qe_var 1)) (qe_ix q_ix (qe_var 2) qe_int))))
theorem ok_step {P : Program} {w : World} {K : PySem.W.Frag} {mg : Str → Option Value} {base : Heap} (T : Txt K mg w) : Has P w K mg base 3 "step" 3 m_step := has_of (N := ["thing", "state", "call", "action"]) (ps := ["thing", "state", "call"]) (k := 2) T.d_step sc_step fun f cdv A outer s H E hr => (qss_cons (qs_set 3 sc_step.nd (qe_tab T.t_STEPS rfl (qe_ix q_ix (qe_var 0) qe_int))) (qss_one (qs_ret (qe_callV 3 (vt_cons (Has.mono (ok_counter_step T) (by decide)) (vt_cons (Has.mono (ok_register_step T) (by decide)) (vt_cons (Has.mono (ok_stack_step T) (by decide)) (vt_cons (Has.mono (ok_queue_step T) (by decide)) (vt_cons (Has.mono (ok_set_step T) (by decide)) (vt_cons (Has.mono (ok_agree_step T) (by decide)) (vt_cons (Has.mono (ok_bank_step T) (by decide)) (vt_cons (Has.mono (ok_table_step T) (by decide)) vt_nil)))))))) hr (takes_of rfl rfl rfl rfl) (qa_cons (qe_var 0) (qa_cons (qe_var 1) (qa_cons (qe_var 2) qa_nil)))))))
theorem ok_states_behind {P : Program} {w : World} {K : PySem.W.Frag} {mg : Str → Option Value} {base : Heap} (T : Txt K mg w) : Has P w K mg base 8 "_states_behind" 3 m_states_behind := has_of (N := ["things", "states", "span", "state", "answer"]) (ps := ["things", "states", "span"]) (k := 7) T.d_states_behind sc_states_behind fun f cdv A outer s H E hr => (qss_cons (qs_asg (qe_call (ok_step T) (hr.mono (by decide)) (takes_of rfl rfl rfl rfl) rfl (qa_cons (qe_ix q_ix (qe_var 0) (qe_fld T.c_Span T.a_Span_place (qe_var 2))) (qa_cons (qe_ix q_ix (qe_var 1) (qe_fld T.c_Span T.a_Span_place (qe_var 2))) (qa_cons (qe_fld T.c_Span T.a_Span_call (qe_var 2)) qa_nil)))) (qg_tup rfl (qgs_cons (qg_name 3 sc_states_behind.nd) (qgs_cons (qg_name 4 sc_states_behind.nd) qgs_nil)))) (qss_cons (qs_if (QW.qt (qw_and (qt_cmp q_isNot.op (qe_fld T.c_Span T.a_Span_end (qe_var 2)) qe_non) (qw_and1 (qt_not (qt_val (qe_call (ok_same T) (hr.mono (by decide)) (takes_of rfl rfl rfl rfl) rfl (qa_cons (qe_var 4) (qa_cons (qe_fld T.c_Span T.a_Span_answer (qe_var 2)) qa_nil)))))))) (qss_one (qs_ret qe_non)) qss_nil) (qss_one (qs_ret (qe_op q_add (qe_op q_add (qe_slice (qe_var 1) qo_none (qo_some (qe_fld T.c_Span T.a_Span_place (qe_var 2)))) (qe_tup (qa_cons (qe_var 3) qa_nil))) (qe_slice (qe_var 1) (qo_some (qe_op q_add (qe_fld T.c_Span T.a_Span_place (qe_var 2)) qe_int)) qo_none))))))
theorem ok_can_stand {P : Program} {w : World} {K : PySem.W.Frag} {mg : Str → Option Value} {base : Heap} (T : Txt K mg w) : Has P w K mg base 1 "_can_stand" 3 m_can_stand := has_of (N := ["held", "needed", "at"]) (ps := ["held", "needed", "at"]) (k := 0) T.d_can_stand sc_can_stand fun f cdv A outer s H E hr => (qss_one (qs_ret (qe_and (qe_cmp (q_eq (hu64 hr)).op (qe_op q_and (qe_op q_shr (qe_var 0) (qe_var 2)) qe_int) qe_int) (qe_one (qe_cmp (q_eq (hu64 hr)).op (qe_op q_and (qe_var 0) (qe_var 1)) (qe_var 1))))))
theorem ok_is_order {P : Program} {w : World} {K : PySem.W.Frag} {mg : Str → Option Value} {base : Heap} (T : Txt K mg w) : Has P w K mg base 9 "is_order" 4 m_is_order := has_of (N := ["things", "spans", "needs", "value", "held", "states", "at", "ended"]) (ps := ["things", "spans", "needs", "value"]) (k := 8) T.d_is_order sc_is_order fun f cdv A outer s H E hr => (qss_cons (qs_if (qt_not (qt_val (qe_call (ok_are_within T) (hr.mono (by decide)) (takes_of rfl rfl rfl rfl) rfl (qa_cons (qe_var 3) (qa_cons qe_int (qa_cons (qe_op q_sub (qe_lenQ rfl T.n_len (qa_cons (qe_var 1) qa_nil)) qe_int) qa_nil)))))) (qss_one (qs_ret qe_bl)) qss_nil) (qss_cons (qs_set 4 sc_is_order.nd qe_int) (qss_cons (qs_set 5 sc_is_order.nd (qe_call (ok_starts T) (hr.mono (by decide)) (takes_of rfl rfl rfl rfl) rfl (qa_cons (qe_var 0) qa_nil))) (qss_cons (qs_for (passes_of rfl) rfl (qi_sq (qe_var 3)) (qg_name 6 sc_is_order.nd) (qss_cons (qs_if (qt_not (qt_val (qe_call (ok_can_stand T) (hr.mono (by decide)) (takes_of rfl rfl rfl rfl) rfl (qa_cons (qe_var 4) (qa_cons (qe_ix q_ix (qe_var 2) (qe_var 6)) (qa_cons (qe_var 6) qa_nil)))))) (qss_one (qs_ret qe_bl)) qss_nil) (qss_cons (qs_set 5 sc_is_order.nd (qe_call (ok_states_behind T) (hr.mono (by decide)) (takes_of rfl rfl rfl rfl) rfl (qa_cons (qe_var 0) (qa_cons (qe_var 5) (qa_cons (qe_ixQ (qe_var 1) (qe_var 6)) qa_nil))))) (qss_cons (qs_if (qt_cmp q_is.op (qe_var 5) qe_non) (qss_one (qs_ret qe_bl)) qss_nil) (qss_one (qs_set 4 sc_is_order.nd (qe_op q_or (qe_var 4) (qe_op q_shl qe_int (qe_var 6))))))))) (qss_cons (qs_set 7 sc_is_order.nd (qe_call (ok_ended T) (hr.mono (by decide)) (takes_of rfl rfl rfl rfl) rfl (qa_cons (qe_var 1) qa_nil))) (qss_one (qs_ret (qe_cmp (q_eq (hu64 hr)).op (qe_op q_and (qe_var 4) (qe_var 7)) (qe_var 7)))))))))
theorem ok_numbers {P : Program} {w : World} {K : PySem.W.Frag} {mg : Str → Option Value} {base : Heap} (T : Txt K mg w) : Has P w K mg base 1 "_numbers" 3 m_numbers := has_ofK (N := ["spans", "place", "order", "own", "at", "span"]) (ps := ["spans", "place", "order"]) (k := 0) T.d_numbers sc_numbers fun f cdv A outer s H E hr => (qss_cons (qs_set 3 sc_numbers.nd (qe_compM .fr 200 (own := [("at", 4), ("span", 5)]) rfl sc_numbers.nd (qi_enum rfl T.n_enumerate (qa_cons (qe_var 0) qa_nil)) (blkOk_by (N := ["spans", "place", "order", "own", "at", "span"]) (sc := defScope s_numbers) (own := [("at", 4), ("span", 5)]) (by decide +kernel)) (fun _ _ _ _ _ => (qg_tup rfl (qgs_cons (qg_name 4 sc_numbers.nd) (qgs_cons (qg_name 5 sc_numbers.nd) qgs_nil)))) (fun _ _ _ _ _ => (qts_one (qt_cmp (q_eq (hu64 hr)).op (qe_fld T.c_Span T.a_Span_place (qe_var 5)) (qe_var 1)))) (fun _ _ _ _ _ => (qe_var 4)))) (qss_one (qs_ret (qe_compM .lv 200 (own := [("at", 4)]) rfl sc_numbers.nd (qim_of (qi_sq (qe_var 2))) (blkOk_by (N := ["spans", "place", "order", "own", "at", "span"]) (sc := defScope s_numbers) (own := [("at", 4)]) (by decide +kernel)) (fun _ _ _ _ _ => (qg_name 4 sc_numbers.nd)) (fun _ _ _ _ _ => qts_nil) (fun _ _ _ _ _ => (qe_ix q_ix (qe_var 3) (qe_var 4)))))))
theorem ok_weave {P : Program} {w : World} {K : PySem.W.Frag} {mg : Str → Option Value} {base : Heap} (T : Txt K mg w) : Has P w K mg base 3 "_weave" 3 m_weave := has_of (N := ["things", "spans", "orders", "needs", "rows", "taken", "held", "ready", "at", "place", "row"]) (ps := ["things", "spans", "orders"]) (k := 2) T.d_weave sc_weave fun f cdv A outer s H E hr => (qss_cons (qs_set 3 sc_weave.nd (qe_call (ok_ahead_of_each T) (hr.mono (by decide)) (takes_of rfl rfl rfl rfl) rfl (qa_cons (qe_var 1) qa_nil))) (qss_cons (qs_compM .lq 200 (own := [("place", 9)]) 4 rfl sc_weave.nd (qim_of (qi_range1 rfl T.n_range (qa_cons (qe_callB q_len rfl T.n_len PySem.boot_len (qa_cons (qe_var 0) qa_nil)) qa_nil))) (blkOk_by (N := ["things", "spans", "orders", "needs", "rows", "taken", "held", "ready", "at", "place", "row"]) (sc := defScope s_weave) (own := [("place", 9)]) (by decide +kernel)) (fun _ _ _ _ _ => (qg_name 9 sc_weave.nd)) (fun _ _ _ _ _ => qts_nil) (fun _ _ _ _ _ => (qe_call (ok_numbers T) (hr.mono (by decide)) takes0 rfl (qa_cons (qe_var 1) (qa_cons (qe_var 9) (qa_cons (qe_ix q_ix (qe_var 2) (qe_var 9)) qa_nil))))) (sw_true rfl rfl rfl (by decide +kernel))) (qss_cons (qs_set 5 sc_weave.nd (qe_mut qa_nil)) (qss_cons (qs_set 6 sc_weave.nd qe_int) (qss_cons (qs_while 1000 (passes_of rfl) (qt_val (qe_callB (q_any rfl) rfl T.n_any boot_any (qa_cons (qe_compM .fr 200 (own := [("row", 10)]) rfl sc_weave.nd (qi_read (qe_var 4)) (blkOk_by (N := ["things", "spans", "orders", "needs", "rows", "taken", "held", "ready", "at", "place", "row"]) (sc := defScope s_weave) (own := [("row", 10)]) (by decide +kernel)) (fun _ _ _ _ _ => (qg_name 10 sc_weave.nd)) (fun _ _ _ _ _ => qts_nil) (fun _ _ _ _ _ => (qe_cmp q_gt.op (qe_callB q_len rfl T.n_len PySem.boot_len (qa_cons (qe_var 10) qa_nil)) qe_int))) qa_nil))) (qss_cons (qs_compM .lq 200 (own := [("row", 10)]) 7 rfl sc_weave.nd (qi_read (qe_var 4)) (blkOk_by (N := ["things", "spans", "orders", "needs", "rows", "taken", "held", "ready", "at", "place", "row"]) (sc := defScope s_weave) (own := [("row", 10)]) (by decide +kernel)) (fun _ _ _ _ _ => (qg_name 10 sc_weave.nd)) (fun _ _ _ _ _ => (qts_one (QW.qt (qw_and (qt_cmp q_gt.op (qe_callB q_len rfl T.n_len PySem.boot_len (qa_cons (qe_var 10) qa_nil)) qe_int) (qw_and1 (qt_cmp (q_eq (hu64 hr)).op (qe_op q_and (qe_var 6) (qe_ix q_ix (qe_var 3) (qe_ix q_ix (qe_var 10) qe_int))) (qe_ix q_ix (qe_var 3) (qe_ix q_ix (qe_var 10) qe_int)))))))) (fun _ _ _ _ _ => (qe_var 10)) (sw_true rfl rfl rfl (by decide +kernel))) (qss_cons (qs_set 8 sc_weave.nd (qe_popAt (qe_ixQ (qe_var 7) qe_int) qe_int)) (qss_cons (qs_expr (qe_append (qe_var 5) (qe_var 8))) (qss_one (qs_set 6 sc_weave.nd (qe_op q_or (qe_var 6) (qe_op q_shl qe_int (qe_var 8))))))))) (qss_one (qs_ret (qe_callTy q_tuple rfl T.n_tuple PyProof.Rows.boot_tuple (qa_cons (qe_var 5) qa_nil)))))))))
theorem ok_woven {P : Program} {w : World} {K : PySem.W.Frag} {mg : Str → Option Value} {base : Heap} (T : Txt K mg w) : Has P w K mg base 13 "woven" 3 m_woven := has_of (N := ["things", "history", "orders", "thing", "part", "order", "spans"]) (ps := ["things", "history", "orders"]) (k := 12) T.d_woven sc_woven fun f cdv A outer s H E hr => (qss_cons (qs_expr (qe_call (ok_check T) (hr.mono (by decide)) (takes_of rfl rfl rfl rfl) rfl (qa_cons (qe_var 0) (qa_cons (qe_var 1) qa_nil)))) (qss_cons (qs_if (QW.qt (qw_or (qt_not (qt_val (qe_isi .tup (qe_var 2) rfl T.n_isinstance rfl T.n_tuple PyProof.Rows.boot_tuple (by decide) (by decide)))) (qw_or1 (qt_cmp (q_ne (hu64 hr)).op (qe_callB q_len rfl T.n_len PySem.boot_len (qa_cons (qe_var 2) qa_nil)) (qe_callB q_len rfl T.n_len PySem.boot_len (qa_cons (qe_var 0) qa_nil)))))) (qss_one qs_fail) qss_nil) (qss_cons (qs_for (passes_of rfl) rfl (qi_zip3 rfl T.n_zip (qa_cons (qe_var 0) (qa_cons (qe_call (ok_all_parts T) (hr.mono (by decide)) (takes_of rfl rfl rfl rfl) rfl (qa_cons (qe_var 0) (qa_cons (qe_var 1) qa_nil))) (qa_cons (qe_var 2) qa_nil)))) (qg_tup rfl (qgs_cons (qg_name 3 sc_woven.nd) (qgs_cons (qg_name 4 sc_woven.nd) (qgs_cons (qg_name 5 sc_woven.nd) qgs_nil)))) (qss_cons (qs_set 6 sc_woven.nd (qe_call (ok_spans_in T) (hr.mono (by decide)) (takes_of rfl rfl rfl rfl) rfl (qa_cons (qe_call (ok_widened T) (hr.mono (by decide)) (takes_of rfl rfl rfl rfl) rfl (qa_cons (qe_var 4) qa_nil)) qa_nil))) (qss_one (qs_if (qt_not (qt_val (qe_call (ok_is_order T) (hr.mono (by decide)) (takes_of rfl rfl rfl rfl) rfl (qa_cons (qe_tup (qa_cons (qe_var 3) qa_nil)) (qa_cons (qe_var 6) (qa_cons (qe_call (ok_ahead_of_each T) (hr.mono (by decide)) (takes_of rfl rfl rfl rfl) rfl (qa_cons (qe_var 6) qa_nil)) (qa_cons (qe_var 5) qa_nil))))))) (qss_one qs_fail) qss_nil)))) (qss_one (qs_ret (qe_call (ok_weave T) (hr.mono (by decide)) (takes_of rfl rfl rfl rfl) rfl (qa_cons (qe_var 0) (qa_cons (qe_call (ok_spans_in T) (hr.mono (by decide)) (takes_of rfl rfl rfl rfl) rfl (qa_cons (qe_var 1) qa_nil)) (qa_cons (qe_var 2) qa_nil)))))))))
theorem ok_following {P : Program} {w : World} {K : PySem.W.Frag} {mg : Str → Option Value} {base : Heap} (T : Txt K mg w) : Has P w K mg base 9 "_following" 4 m_following := has_of (N := ["things", "spans", "needs", "node", "found", "held", "states", "at", "span", "behind"]) (ps := ["things", "spans", "needs", "node"]) (k := 8) T.d_following sc_following fun f cdv A outer s H E hr => (qss_cons (qs_asg (qe_var 3) (qg_tup rfl (qgs_cons (qg_name 5 sc_following.nd) (qgs_cons (qg_name 6 sc_following.nd) qgs_nil)))) (qss_cons (qs_set 4 sc_following.nd (qe_mut qa_nil)) (qss_cons (qs_forM 200 (passes_of rfl) rfl (qi_enum rfl T.n_enumerate (qa_cons (qe_var 1) qa_nil)) (qg_tup rfl (qgs_cons (qg_name 7 sc_following.nd) (qgs_cons (qg_name 8 sc_following.nd) qgs_nil))) (qss_one (qs_if (qt_val (qe_call (ok_can_stand T) (hr.mono (by decide)) (takes_of rfl rfl rfl rfl) rfl (qa_cons (qe_var 5) (qa_cons (qe_ix q_ix (qe_var 2) (qe_var 7)) (qa_cons (qe_var 7) qa_nil))))) (qss_cons (qs_set 9 sc_following.nd (qe_call (ok_states_behind T) (hr.mono (by decide)) (takes_of rfl rfl rfl rfl) rfl (qa_cons (qe_var 0) (qa_cons (qe_var 6) (qa_cons (qe_var 8) qa_nil))))) (qss_one (qs_if (qt_cmp q_isNot.op (qe_var 9) qe_non) (qss_one (qs_expr (qe_append (qe_var 4) (qe_tup (qa_cons (qe_var 7) (qa_cons (qe_tup (qa_cons (qe_op q_or (qe_var 5) (qe_op q_shl qe_int (qe_var 7))) (qa_cons (qe_var 9) qa_nil))) qa_nil)))))) qss_nil))) qss_nil))) (qss_one (qs_ret (qe_var 4))))))
theorem ok_find_order {P : Program} {w : World} {K : PySem.W.Frag} {mg : Str → Option Value} {base : Heap} (T : Txt K mg w) : Has P w K mg base 10 "find_order" 3 m_find_order := has_of (N := ["things", "spans", "needs", "ended", "first", "paths", "met", "node", "order", "at", "behind"]) (ps := ["things", "spans", "needs"]) (k := 9) T.d_find_order sc_find_order fun f cdv A outer s H E hr => (qss_cons (qs_set 3 sc_find_order.nd (qe_call (ok_ended T) (hr.mono (by decide)) (takes_of rfl rfl rfl rfl) rfl (qa_cons (qe_var 1) qa_nil))) (qss_cons (qs_set 4 sc_find_order.nd (qe_tup (qa_cons qe_int (qa_cons (qe_call (ok_starts T) (hr.mono (by decide)) (takes_of rfl rfl rfl rfl) rfl (qa_cons (qe_var 0) qa_nil)) qa_nil)))) (qss_cons (qs_set 5 sc_find_order.nd (qe_mut (qa_cons (qe_tup (qa_cons (qe_var 4) (qa_cons (qe_tup qa_nil) qa_nil))) qa_nil))) (qss_cons (qs_set 6 sc_find_order.nd (qe_disp (hu64 hr) (qpp_cons (qe_var 4) qe_bl qpp_nil))) (qss_cons (qs_while 1000 (passes_of rfl) (qt_cmp q_gt.op (qe_callB q_len rfl T.n_len PySem.boot_len (qa_cons (qe_var 5) qa_nil)) qe_int) (qss_cons (qs_asg (qe_pop (qe_var 5)) (qg_tup rfl (qgs_cons (qg_name 7 sc_find_order.nd) (qgs_cons (qg_name 8 sc_find_order.nd) qgs_nil)))) (qss_cons (qs_if (qt_cmp (q_eq (hu64 hr)).op (qe_op q_and (qe_ix q_ix (qe_var 7) qe_int) (qe_var 3)) (qe_var 3)) (qss_one (qs_ret (qe_var 8))) qss_nil) (qss_one (qs_for (passes_of rfl) rfl (qi_sq (qe_call (ok_following T) (hr.mono (by decide)) (takes_of rfl rfl rfl rfl) rfl (qa_cons (qe_var 0) (qa_cons (qe_var 1) (qa_cons (qe_var 2) (qa_cons (qe_var 7) qa_nil)))))) (qg_tup rfl (qgs_cons (qg_name 9 sc_find_order.nd) (qgs_cons (qg_name 10 sc_find_order.nd) qgs_nil))) (qss_one (qs_if (qt_dIn true (hu64 hr) (qe_var 10) (qe_var 6)) (qss_cons (qs_dSet (hu64 hr) qe_bl (qe_var 6) (qe_var 10)) (qss_one (qs_expr (qe_append (qe_var 5) (qe_tup (qa_cons (qe_var 10) (qa_cons (qe_op q_add (qe_var 8) (qe_tup (qa_cons (qe_var 9) qa_nil))) qa_nil))))))) qss_nil))))))) (qss_one (qs_ret qe_non)))))))
theorem ok_explained_all {P : Program} {w : World} {K : PySem.W.Frag} {mg : Str → Option Value} {base : Heap} (T : Txt K mg w) : Has P w K mg base 13 "explained_all" 2 m_explained_all := has_of (N := ["things", "history", "orders", "thing", "part", "spans", "order"]) (ps := ["things", "history"]) (k := 12) T.d_explained_all sc_explained_all fun f cdv A outer s H E hr => (qss_cons (qs_expr (qe_call (ok_check T) (hr.mono (by decide)) (takes_of rfl rfl rfl rfl) rfl (qa_cons (qe_var 0) (qa_cons (qe_var 1) qa_nil)))) (qss_cons (qs_set 2 sc_explained_all.nd (qe_mut qa_nil)) (qss_cons (qs_for (passes_of rfl) rfl (qi_zip rfl T.n_zip (qa_cons (qe_var 0) (qa_cons (qe_call (ok_all_parts T) (hr.mono (by decide)) (takes_of rfl rfl rfl rfl) rfl (qa_cons (qe_var 0) (qa_cons (qe_var 1) qa_nil))) qa_nil))) (qg_tup rfl (qgs_cons (qg_name 3 sc_explained_all.nd) (qgs_cons (qg_name 4 sc_explained_all.nd) qgs_nil))) (qss_cons (qs_set 5 sc_explained_all.nd (qe_call (ok_spans_in T) (hr.mono (by decide)) (takes_of rfl rfl rfl rfl) rfl (qa_cons (qe_call (ok_widened T) (hr.mono (by decide)) (takes_of rfl rfl rfl rfl) rfl (qa_cons (qe_var 4) qa_nil)) qa_nil))) (qss_cons (qs_set 6 sc_explained_all.nd (qe_call (ok_find_order T) (hr.mono (by decide)) (takes_of rfl rfl rfl rfl) rfl (qa_cons (qe_tup (qa_cons (qe_var 3) qa_nil)) (qa_cons (qe_var 5) (qa_cons (qe_call (ok_ahead_of_each T) (hr.mono (by decide)) (takes_of rfl rfl rfl rfl) rfl (qa_cons (qe_var 5) qa_nil)) qa_nil))))) (qss_cons (qs_if (qt_cmp q_is.op (qe_var 6) qe_non) (qss_one (qs_ret qe_non)) qss_nil) (qss_one (qs_expr (qe_append (qe_var 2) (qe_var 6)))))))) (qss_one (qs_ret (qe_call (ok_weave T) (hr.mono (by decide)) (takes_of rfl rfl rfl rfl) rfl (qa_cons (qe_var 0) (qa_cons (qe_call (ok_spans_in T) (hr.mono (by decide)) (takes_of rfl rfl rfl rfl) rfl (qa_cons (qe_var 1) qa_nil)) (qa_cons (qe_var 2) qa_nil)))))))))
theorem ok_is_own_before {P : Program} {w : World} {K : PySem.W.Frag} {mg : Str → Option Value} {base : Heap} (T : Txt K mg w) : Has P w K mg base 1 "_is_own_before" 2 m_is_own_before := has_of (N := ["one", "other"]) (ps := ["one", "other"]) (k := 0) T.d_is_own_before sc_is_own_before fun f cdv A outer s H E hr => (qss_one (qs_ret (qe_and (qe_cmp (q_eq (hu64 hr)).op (qe_fld T.c_Span T.a_Span_thread (qe_var 0)) (qe_fld T.c_Span T.a_Span_thread (qe_var 1))) (qe_one (qe_cmp q_lt.op (qe_fld T.c_Span T.a_Span_begin (qe_var 0)) (qe_fld T.c_Span T.a_Span_begin (qe_var 1)))))))
theorem ok_own_before_each {P : Program} {w : World} {K : PySem.W.Frag} {mg : Str → Option Value} {base : Heap} (T : Txt K mg w) : Has P w K mg base 2 "own_before_each" 1 m_own_before_each := has_of (N := ["spans", "span", "at", "other"]) (ps := ["spans"]) (k := 1) T.d_own_before_each sc_own_before_each fun f cdv A outer s H E hr => (qss_one (qs_ret (qe_compM .fr 200 (own := [("span", 1)]) rfl sc_own_before_each.nd (qi_read (qe_var 0)) (blkOk_by (N := ["spans", "span", "at", "other"]) (sc := defScope s_own_before_each) (own := [("span", 1)]) (by decide +kernel)) (fun _ _ _ _ _ => (qg_name 1 sc_own_before_each.nd)) (fun _ _ _ _ _ => qts_nil) (fun _ _ _ _ _ => (qe_callB (q_sum rfl) rfl T.n_sum PyProof.Rows.boot_sum (qa_cons (qe_compM .fr 200 (own := [("at", 2), ("other", 3)]) rfl sc_own_before_each.nd (qi_enum rfl T.n_enumerate (qa_cons (qe_var 0) qa_nil)) (blkOk_by (N := ["spans", "span", "at", "other"]) (sc := _) (own := [("at", 2), ("other", 3)]) (by rfl)) (fun _ _ _ _ _ => (qg_tup rfl (qgs_cons (qg_name 2 sc_own_before_each.nd) (qgs_cons (qg_name 3 sc_own_before_each.nd) qgs_nil)))) (fun _ _ _ _ _ => (qts_one (qt_val (qe_call (ok_is_own_before T) (hr.mono (by decide)) takes0 rfl (qa_cons (qe_var 3) (qa_cons (qe_var 1) qa_nil)))))) (fun _ _ _ _ _ => (qe_op q_shl qe_int (qe_var 2)))) qa_nil))))))
theorem ok_in_step_all {P : Program} {w : World} {K : PySem.W.Frag} {mg : Str → Option Value} {base : Heap} (T : Txt K mg w) : Has P w K mg base 13 "in_step_all" 2 m_in_step_all := has_of (N := ["things", "history", "spans"]) (ps := ["things", "history"]) (k := 12) T.d_in_step_all sc_in_step_all fun f cdv A outer s H E hr => (qss_cons (qs_expr (qe_call (ok_check T) (hr.mono (by decide)) (takes_of rfl rfl rfl rfl) rfl (qa_cons (qe_var 0) (qa_cons (qe_var 1) qa_nil)))) (qss_cons (qs_set 2 sc_in_step_all.nd (qe_call (ok_spans_in T) (hr.mono (by decide)) (takes_of rfl rfl rfl rfl) rfl (qa_cons (qe_var 1) qa_nil))) (qss_one (qs_ret (qe_cmp q_isNot.op (qe_call (ok_find_order T) (hr.mono (by decide)) (takes_of rfl rfl rfl rfl) rfl (qa_cons (qe_var 0) (qa_cons (qe_var 2) (qa_cons (qe_call (ok_own_before_each T) (hr.mono (by decide)) (takes_of rfl rfl rfl rfl) rfl (qa_cons (qe_var 2) qa_nil)) qa_nil)))) qe_non)))))
theorem ok_check_history {P : Program} {w : World} {K : PySem.W.Frag} {mg : Str → Option Value} {base : Heap} (T : Txt K mg w) : Has P w K mg base 12 "check_history" 2 m_check_history := has_of (N := ["thing", "value"]) (ps := ["thing", "value"]) (k := 11) T.d_check_history sc_check_history fun f cdv A outer s H E hr => (qss_cons (qs_if (qt_not (qt_val (qe_isi .tup (qe_var 1) rfl T.n_isinstance rfl T.n_tuple PyProof.Rows.boot_tuple (by decide) (by decide)))) (qss_one qs_fail) qss_nil) (qss_one (qs_expr (qe_call (ok_check_wide_history T) (hr.mono (by decide)) (takes_of rfl rfl rfl rfl) rfl (qa_cons (qe_tup (qa_cons (qe_var 0) qa_nil)) (qa_cons (qe_call (ok_widened T) (hr.mono (by decide)) (takes_of rfl rfl rfl rfl) rfl (qa_cons (qe_var 1) qa_nil)) qa_nil))))))
theorem ok_checked_spans {P : Program} {w : World} {K : PySem.W.Frag} {mg : Str → Option Value} {base : Heap} (T : Txt K mg w) : Has P w K mg base 13 "_checked_spans" 2 m_checked_spans := has_ofK (N := ["thing", "history"]) (ps := ["thing", "history"]) (k := 12) T.d_checked_spans sc_checked_spans fun f cdv A outer s H E hr => (qss_cons (qs_expr (qe_call (ok_check_object T) (hr.mono (by decide)) (takes_of rfl rfl rfl rfl) rfl (qa_cons (qe_var 0) qa_nil))) (qss_cons (qs_expr (qe_call (ok_check_history T) (hr.mono (by decide)) (takes_of rfl rfl rfl rfl) rfl (qa_cons (qe_var 0) (qa_cons (qe_var 1) qa_nil)))) (qss_one (qs_ret (qe_call (ok_spans_in T) (hr.mono (by decide)) (takes_of rfl rfl rfl rfl) rfl (qa_cons (qe_call (ok_widened T) (hr.mono (by decide)) (takes_of rfl rfl rfl rfl) rfl (qa_cons (qe_var 1) qa_nil)) qa_nil))))))
theorem ok_explained {P : Program} {w : World} {K : PySem.W.Frag} {mg : Str → Option Value} {base : Heap} (T : Txt K mg w) : Has P w K mg base 14 "explained" 2 m_explained := has_of (N := ["thing", "history", "found"]) (ps := ["thing", "history"]) (k := 13) T.d_explained sc_explained fun f cdv A outer s H E hr => (qss_cons (qs_set 2 sc_explained.nd (qe_call (ok_checked_spans T) (hr.mono (by decide)) (takes_of rfl rfl rfl rfl) rfl (qa_cons (qe_var 0) (qa_cons (qe_var 1) qa_nil)))) (qss_one (qs_ret (qe_call (ok_find_order T) (hr.mono (by decide)) (takes_of rfl rfl rfl rfl) rfl (qa_cons (qe_tup (qa_cons (qe_var 0) qa_nil)) (qa_cons (qe_var 2) (qa_cons (qe_call (ok_ahead_of_each T) (hr.mono (by decide)) (takes_of rfl rfl rfl rfl) rfl (qa_cons (qe_var 2) qa_nil)) qa_nil)))))))
theorem ok_count_orders {P : Program} {w : World} {K : PySem.W.Frag} {mg : Str → Option Value} {base : Heap} (T : Txt K mg w) : Has P w K mg base 10 "count_orders" 3 m_count_orders := has_of (N := ["things", "spans", "needs", "ended", "total", "counts", "longer", "node", "many", "_", "behind"]) (ps := ["things", "spans", "needs"]) (k := 9) T.d_count_orders sc_count_orders fun f cdv A outer s H E hr => (qss_cons (qs_set 3 sc_count_orders.nd (qe_call (ok_ended T) (hr.mono (by decide)) (takes_of rfl rfl rfl rfl) rfl (qa_cons (qe_var 1) qa_nil))) (qss_cons (qs_set 4 sc_count_orders.nd qe_int) (qss_cons (qs_set 5 sc_count_orders.nd (qe_disp (hu64 hr) (qpp_cons (qe_tup (qa_cons qe_int (qa_cons (qe_call (ok_starts T) (hr.mono (by decide)) (takes_of rfl rfl rfl rfl) rfl (qa_cons (qe_var 0) qa_nil)) qa_nil))) qe_int qpp_nil))) (qss_cons (qs_while 1000 (passes_of rfl) (qt_cmp q_gt.op (qe_lenT rfl T.n_len (qa_cons (qe_var 5) qa_nil)) qe_int) (qss_cons (qs_set 6 sc_count_orders.nd qe_k0) (qss_cons (qs_lock 5 rfl (qs_for (passes_of rfl) rfl (qi_ditems (qe_var 5)) (qg_tup rfl (qgs_cons (qg_name 7 sc_count_orders.nd) (qgs_cons (qg_name 8 sc_count_orders.nd) qgs_nil))) (qss_cons (qs_if (qt_cmp (q_eq (hu64 hr)).op (qe_op q_and (qe_ix q_ix (qe_var 7) qe_int) (qe_var 3)) (qe_var 3)) (qss_one (qs_aug 4 q_iadd sc_count_orders.nd (qe_var 8))) qss_nil) (qss_one (qs_for (passes_of rfl) rfl (qi_sq (qe_call (ok_following T) (hr.mono (by decide)) (takes_of rfl rfl rfl rfl) rfl (qa_cons (qe_var 0) (qa_cons (qe_var 1) (qa_cons (qe_var 2) (qa_cons (qe_var 7) qa_nil)))))) (qg_tup rfl (qgs_cons (qg_name 9 sc_count_orders.nd) (qgs_cons (qg_name 10 sc_count_orders.nd) qgs_nil))) (qss_one (qs_dSet (hu64 hr) (qe_op q_add (qe_dGet2 (hu64 hr) (qe_var 6) (qe_var 10) qe_int) (qe_var 8)) (qe_var 6) (qe_var 10)))))))) (qss_one (qs_set 5 sc_count_orders.nd (qe_var 6)))))) (qss_one (qs_ret (qe_var 4)))))))
theorem ok_order_count {P : Program} {w : World} {K : PySem.W.Frag} {mg : Str → Option Value} {base : Heap} (T : Txt K mg w) : Has P w K mg base 14 "order_count" 2 m_order_count := has_of (N := ["thing", "history", "found"]) (ps := ["thing", "history"]) (k := 13) T.d_order_count sc_order_count fun f cdv A outer s H E hr => (qss_cons (qs_set 2 sc_order_count.nd (qe_call (ok_checked_spans T) (hr.mono (by decide)) (takes_of rfl rfl rfl rfl) rfl (qa_cons (qe_var 0) (qa_cons (qe_var 1) qa_nil)))) (qss_one (qs_ret (qe_call (ok_count_orders T) (hr.mono (by decide)) (takes_of rfl rfl rfl rfl) rfl (qa_cons (qe_tup (qa_cons (qe_var 0) qa_nil)) (qa_cons (qe_var 2) (qa_cons (qe_call (ok_ahead_of_each T) (hr.mono (by decide)) (takes_of rfl rfl rfl rfl) rfl (qa_cons (qe_var 2) qa_nil)) qa_nil)))))))
theorem ok_Judge_init {P : Program} {w : World} {K : PySem.W.Frag} {mg : Str → Option Value} {base : Heap} (T : Txt K mg w) : HasI P w K mg base 1 "Judge" 2 m_Judge_init := hasI_of (N := ["self", "thing"]) (ps := ["self", "thing"]) (k := 0) T.i_Judge sc_Judge_init fun f cdv A outer s H E hr => (qss_cons (qs_fld T.c_Judge T.a_Judge_thing (qe_var 0) (qe_var 1)) (qss_cons (qs_fld T.c_Judge T.a_Judge_known (qe_var 0) (qe_mut qa_nil)) (qss_one (qs_fld T.c_Judge T.a_Judge_numbers (qe_var 0) qe_k0))))
theorem ok_Judge_keep {P : Program} {w : World} {K : PySem.W.Frag} {mg : Str → Option Value} {base : Heap} (T : Txt K mg w) : HasM P w K mg base 1 "Judge" "keep" 2 m_Judge_keep := hasM_of (N := ["self", "guesses", "guess"]) (ps := ["self", "guesses"]) (k := 0) T.m_Judge_keep sc_Judge_keep fun f cdv A outer s H E hr => (qss_cons (qs_for (passes_of rfl) rfl (qi_sq (qe_var 1)) (qg_name 2 sc_Judge_keep.nd) (qss_one (qs_if (qt_dIn true (hu64 hr) (qe_var 2) (qe_fld T.c_Judge T.a_Judge_numbers (qe_var 0))) (qss_cons (qs_dSet (hu64 hr) (qe_callB q_len rfl T.n_len PySem.boot_len (qa_cons (qe_fld T.c_Judge T.a_Judge_known (qe_var 0)) qa_nil)) (qe_fld T.c_Judge T.a_Judge_numbers (qe_var 0)) (qe_var 2)) (qss_one (qs_expr (qe_append (qe_fld T.c_Judge T.a_Judge_known (qe_var 0)) (qe_var 2))))) qss_nil))) (qss_one (qs_ret (qe_callTy q_tuple rfl T.n_tuple PyProof.Rows.boot_tuple (qa_cons (qe_callB (q_sorted (hu64 hr)) rfl T.n_sorted PyProof.Rows.boot_sorted (qa_cons (qe_comp (own := [("guess", 2)]) rfl sc_Judge_keep.nd (qi_sq (qe_var 1)) (blkOk_by (N := ["self", "guesses", "guess"]) (sc := defScope s_Judge_keep) (own := [("guess", 2)]) (by decide +kernel)) (fun _ _ _ _ _ => (qg_name 2 sc_Judge_keep.nd)) (fun _ _ _ _ _ => qts_nil) (fun _ _ _ _ _ => (qe_dGet (hu64 hr) (qe_fld T.c_Judge T.a_Judge_numbers (qe_var 0)) (qe_var 2)))) qa_nil)) qa_nil)))))
theorem ok_Judge_first {P : Program} {w : World} {K : PySem.W.Frag} {mg : Str → Option Value} {base : Heap} (T : Txt K mg w) : HasM P w K mg base 2 "Judge" "first" 1 m_Judge_first := hasM_of (N := ["self"]) (ps := ["self"]) (k := 1) T.m_Judge_first sc_Judge_first fun f cdv A outer s H E hr => (qss_one (qs_ret (qe_meth (ok_Judge_keep T) (hr.mono (by decide)) (qe_var 0) (qa_cons (qe_lst (qa_cons (qe_tup (qa_cons (qe_call (ok_start T) (hr.mono (by decide)) (takes_of rfl rfl rfl rfl) rfl (qa_cons (qe_fld T.c_Judge T.a_Judge_thing (qe_var 0)) qa_nil)) (qa_cons (qe_op q_mulT (qe_tup (qa_cons qe_non qa_nil)) (qe_gint T.g_THREADS rfl)) qa_nil))) qa_nil)) qa_nil))))
theorem ok_marked {P : Program} {w : World} {K : PySem.W.Frag} {mg : Str → Option Value} {base : Heap} (T : Txt K mg w) : Has P w K mg base 1 "_marked" 3 m_marked := has_of (N := ["guess", "thread", "mark", "state", "marks"]) (ps := ["guess", "thread", "mark"]) (k := 0) T.d_marked sc_marked fun f cdv A outer s H E hr => (qss_cons (qs_asg (qe_var 0) (qg_tup rfl (qgs_cons (qg_name 3 sc_marked.nd) (qgs_cons (qg_name 4 sc_marked.nd) qgs_nil)))) (qss_one (qs_ret (qe_tup (qa_cons (qe_var 3) (qa_cons (qe_op q_add (qe_op q_add (qe_slice (qe_var 4) qo_none (qo_some (qe_var 1))) (qe_tup (qa_cons (qe_var 2) qa_nil))) (qe_slice (qe_var 4) (qo_some (qe_op q_add (qe_var 1) qe_int)) qo_none)) qa_nil))))))
theorem ok_has_heard {P : Program} {w : World} {K : PySem.W.Frag} {mg : Str → Option Value} {base : Heap} (T : Txt K mg w) : Has P w K mg base 8 "_has_heard" 2 m_has_heard := has_of (N := ["mark", "answer"]) (ps := ["mark", "answer"]) (k := 7) T.d_has_heard sc_has_heard fun f cdv A outer s H E hr => (qss_one (qs_ret (qe_and (qe_cmp (q_eq (hu64 hr)).op (qe_callB q_len rfl T.n_len PySem.boot_len (qa_cons (qe_var 0) qa_nil)) qe_int) (qe_one (qe_call (ok_same T) (hr.mono (by decide)) (takes_of rfl rfl rfl rfl) rfl (qa_cons (qe_ix q_ix (qe_var 0) qe_int) (qa_cons (qe_var 1) qa_nil)))))))
theorem ok_spread {P : Program} {w : World} {K : PySem.W.Frag} {mg : Str → Option Value} {base : Heap} (T : Txt K mg w) : Has P w K mg base 4 "_spread" 2 m_spread := has_of (N := ["thing", "guesses", "found", "met", "at", "guess", "state", "marks", "thread", "mark", "behind", "answer"]) (ps := ["thing", "guesses"]) (k := 3) T.d_spread sc_spread fun f cdv A outer s H E hr => (qss_cons (qs_set 2 sc_spread.nd (qe_mutL rfl T.n_list (qa_cons (qe_var 1) qa_nil))) (qss_cons (qs_compD 200 (own := [("guess", 5)]) 3 (hu64 hr) rfl sc_spread.nd (qi_read (qe_var 2)) (blkOk_by (N := ["thing", "guesses", "found", "met", "at", "guess", "state", "marks", "thread", "mark", "behind", "answer"]) (sc := defScope s_spread) (own := [("guess", 5)]) (by decide +kernel)) (fun _ _ _ _ _ => (qg_name 5 sc_spread.nd)) (fun _ _ _ _ _ => qts_nil) (fun _ _ _ _ _ => (qe_var 5)) (fun _ _ _ _ _ => qe_bl) (swD_true rfl rfl rfl (by decide +kernel))) (qss_cons (qs_set 4 sc_spread.nd qe_int) (qss_cons (qs_while 1000 (passes_of rfl) (qt_cmp q_lt.op (qe_var 4) (qe_callB q_len rfl T.n_len PySem.boot_len (qa_cons (qe_var 2) qa_nil))) (qss_cons (qs_asg (qe_ix q_ix (qe_var 2) (qe_var 4)) (qg_tup rfl (qgs_cons (qg_name 6 sc_spread.nd) (qgs_cons (qg_name 7 sc_spread.nd) qgs_nil)))) (qss_cons (qs_forM 200 (passes_of rfl) rfl (qi_enum rfl T.n_enumerate (qa_cons (qe_var 7) qa_nil)) (qg_tup rfl (qgs_cons (qg_name 8 sc_spread.nd) (qgs_cons (qg_name 9 sc_spread.nd) qgs_nil))) (qss_one (qs_if (QW.qt (qw_and (qt_cmp q_isNot.op (qe_var 9) qe_non) (qw_and1 (qt_cmp (q_eq (hu64 hr)).op (qe_callB q_len rfl T.n_len PySem.boot_len (qa_cons (qe_var 9) qa_nil)) qe_int)))) (qss_cons (qs_asg (qe_call (ok_step T) (hr.mono (by decide)) (takes_of rfl rfl rfl rfl) rfl (qa_cons (qe_var 0) (qa_cons (qe_var 6) (qa_cons (qe_ix q_ix (qe_var 9) qe_int) qa_nil)))) (qg_tup rfl (qgs_cons (qg_name 10 sc_spread.nd) (qgs_cons (qg_name 11 sc_spread.nd) qgs_nil)))) (qss_cons (qs_set 5 sc_spread.nd (qe_call (ok_marked T) (hr.mono (by decide)) (takes_of rfl rfl rfl rfl) rfl (qa_cons (qe_tup (qa_cons (qe_var 10) (qa_cons (qe_var 7) qa_nil))) (qa_cons (qe_var 8) (qa_cons (qe_tup (qa_cons (qe_ix q_ix (qe_var 9) qe_int) (qa_cons (qe_var 11) qa_nil))) qa_nil))))) (qss_one (qs_if (qt_dIn true (hu64 hr) (qe_var 5) (qe_var 3)) (qss_cons (qs_dSet (hu64 hr) qe_bl (qe_var 3) (qe_var 5)) (qss_one (qs_expr (qe_append (qe_var 2) (qe_var 5))))) qss_nil)))) qss_nil))) (qss_one (qs_aug 4 q_iadd sc_spread.nd qe_int))))) (qss_one (qs_ret (qe_var 2)))))))
theorem ok_Judge_hear {P : Program} {w : World} {K : PySem.W.Frag} {mg : Str → Option Value} {base : Heap} (T : Txt K mg w) : HasM P w K mg base 9 "Judge" "hear" 3 m_Judge_hear := hasM_of (N := ["self", "kept", "event", "guesses", "word", "thread", "told", "number", "guess"]) (ps := ["self", "kept", "event"]) (k := 8) T.m_Judge_hear sc_Judge_hear fun f cdv A outer s H E hr => (qss_cons (qs_asg (qe_var 2) (qg_tup rfl (qgs_cons (qg_name 4 sc_Judge_hear.nd) (qgs_cons (qg_name 5 sc_Judge_hear.nd) (qgs_cons (qg_name 6 sc_Judge_hear.nd) qgs_nil))))) (qss_cons (qs_comp (own := [("number", 7)]) 3 rfl sc_Judge_hear.nd (qi_sq (qe_var 1)) (blkOk_by (N := ["self", "kept", "event", "guesses", "word", "thread", "told", "number", "guess"]) (sc := defScope s_Judge_hear) (own := [("number", 7)]) (by decide +kernel)) (fun _ _ _ _ _ => (qg_name 7 sc_Judge_hear.nd)) (fun _ _ _ _ _ => qts_nil) (fun _ _ _ _ _ => (qe_ix q_ix (qe_fld T.c_Judge T.a_Judge_known (qe_var 0)) (qe_var 7))) (sw_true rfl rfl rfl (by decide +kernel))) (qss_cons (qs_if (qt_cmp (q_eq (hu64 hr)).op (qe_var 4) qe_str) (qss_one (qs_ret (qe_meth (ok_Judge_keep T) (hr.mono (by decide)) (qe_var 0) (qa_cons (qe_call (ok_spread T) (hr.mono (by decide)) (takes_of rfl rfl rfl rfl) rfl (qa_cons (qe_fld T.c_Judge T.a_Judge_thing (qe_var 0)) (qa_cons (qe_comp (own := [("guess", 8)]) rfl sc_Judge_hear.nd (qi_sq (qe_var 3)) (blkOk_by (N := ["self", "kept", "event", "guesses", "word", "thread", "told", "number", "guess"]) (sc := defScope s_Judge_hear) (own := [("guess", 8)]) (by decide +kernel)) (fun _ _ _ _ _ => (qg_name 8 sc_Judge_hear.nd)) (fun _ _ _ _ _ => qts_nil) (fun _ _ _ _ _ => (qe_call (ok_marked T) (hr.mono (by decide)) takes0 rfl (qa_cons (qe_var 8) (qa_cons (qe_var 5) (qa_cons (qe_tup (qa_cons (qe_var 6) qa_nil)) qa_nil)))))) qa_nil))) qa_nil)))) qss_nil) (qss_one (qs_ret (qe_meth (ok_Judge_keep T) (hr.mono (by decide)) (qe_var 0) (qa_cons (qe_comp (own := [("guess", 8)]) rfl sc_Judge_hear.nd (qi_sq (qe_var 3)) (blkOk_by (N := ["self", "kept", "event", "guesses", "word", "thread", "told", "number", "guess"]) (sc := defScope s_Judge_hear) (own := [("guess", 8)]) (by decide +kernel)) (fun _ _ _ _ _ => (qg_name 8 sc_Judge_hear.nd)) (fun _ _ _ _ _ => (qts_one (qt_val (qe_call (ok_has_heard T) (hr.mono (by decide)) takes0 rfl (qa_cons (qe_ix q_ix (qe_ix q_ix (qe_var 8) qe_int) (qe_var 5)) (qa_cons (qe_var 6) qa_nil)))))) (fun _ _ _ _ _ => (qe_call (ok_marked T) (hr.mono (by decide)) takes0 rfl (qa_cons (qe_var 8) (qa_cons (qe_var 5) (qa_cons qe_non qa_nil)))))) qa_nil)))))))
theorem ok_first_wrong {P : Program} {w : World} {K : PySem.W.Frag} {mg : Str → Option Value} {base : Heap} (T : Txt K mg w) : Has P w K mg base 13 "first_wrong" 2 m_first_wrong := has_of (N := ["thing", "history", "judge", "kept", "at", "event"]) (ps := ["thing", "history"]) (k := 12) T.d_first_wrong sc_first_wrong fun f cdv A outer s H E hr => (qss_cons (qs_expr (qe_call (ok_check_object T) (hr.mono (by decide)) (takes_of rfl rfl rfl rfl) rfl (qa_cons (qe_var 0) qa_nil))) (qss_cons (qs_expr (qe_call (ok_check_history T) (hr.mono (by decide)) (takes_of rfl rfl rfl rfl) rfl (qa_cons (qe_var 0) (qa_cons (qe_var 1) qa_nil)))) (qss_cons (qs_set 2 sc_first_wrong.nd (qe_new (ok_Judge_init T) (hr.mono (by decide)) rfl (qa_cons (qe_var 0) qa_nil))) (qss_cons (qs_set 3 sc_first_wrong.nd (qe_meth0 (ok_Judge_first T) (hr.mono (by decide)) (qe_var 2))) (qss_cons (qs_forM 200 (passes_of rfl) rfl (qi_enum rfl T.n_enumerate (qa_cons (qe_var 1) qa_nil)) (qg_tup rfl (qgs_cons (qg_name 4 sc_first_wrong.nd) (qgs_cons (qg_name 5 sc_first_wrong.nd) qgs_nil))) (qss_cons (qs_set 3 sc_first_wrong.nd (qe_meth (ok_Judge_hear T) (hr.mono (by decide)) (qe_var 2) (qa_cons (qe_var 3) (qa_cons (qe_var 5) qa_nil)))) (qss_one (qs_if (qt_cmp (q_eq (hu64 hr)).op (qe_callB q_len rfl T.n_len PySem.boot_len (qa_cons (qe_var 3) qa_nil)) qe_int) (qss_one (qs_ret (qe_var 4))) qss_nil)))) (qss_one (qs_ret qe_non)))))))
theorem ok_in_step {P : Program} {w : World} {K : PySem.W.Frag} {mg : Str → Option Value} {base : Heap} (T : Txt K mg w) : Has P w K mg base 14 "in_step" 2 m_in_step := has_of (N := ["thing", "history", "found"]) (ps := ["thing", "history"]) (k := 13) T.d_in_step sc_in_step fun f cdv A outer s H E hr => (qss_cons (qs_set 2 sc_in_step.nd (qe_call (ok_checked_spans T) (hr.mono (by decide)) (takes_of rfl rfl rfl rfl) rfl (qa_cons (qe_var 0) (qa_cons (qe_var 1) qa_nil)))) (qss_one (qs_ret (qe_call (ok_find_order T) (hr.mono (by decide)) (takes_of rfl rfl rfl rfl) rfl (qa_cons (qe_tup (qa_cons (qe_var 0) qa_nil)) (qa_cons (qe_var 2) (qa_cons (qe_call (ok_own_before_each T) (hr.mono (by decide)) (takes_of rfl rfl rfl rfl) rfl (qa_cons (qe_var 2) qa_nil)) qa_nil)))))))
theorem ok_Ltaken {P : Program} {w : World} {K : PySem.W.Frag} {mg : Str → Option Value} {base : Heap} (T : Txt K mg w) : Has P w K mg base 1 "_law_taken" 2 m_Ltaken := has_of (N := ["row", "many", "cell", "found"]) (ps := ["row", "many"]) (k := 0) T.d_Ltaken sc_Ltaken fun f cdv A outer s H E hr => (qss_cons (qs_if (qt_cmp q_gt.op (qe_ix q_ix (qe_var 0) qe_int) qe_int) (qss_cons (qs_set 3 sc_Ltaken.nd (qe_op q_mod (qe_callTy q_int rfl T.n_int PyProof.Rows.boot_int (qa_cons (qe_ix q_ix (qe_var 0) qe_int) qa_nil)) (qe_var 1))) (qss_cons (qs_put (qe_op q_fdiv (qe_ix q_ix (qe_var 0) qe_int) (qe_var 1)) (qe_var 0) qe_int) (qss_one (qs_ret (qe_var 3))))) qss_nil) (qss_cons (qs_put (qe_op q_add (qe_ix q_ix (qe_var 0) qe_int) qe_int) (qe_var 0) qe_int) (qss_cons (qs_if (qt_cmp q_gt.op (qe_ix q_ix (qe_var 0) qe_int) (qe_callB q_len rfl T.n_len PySem.boot_len (qa_cons (qe_ix q_ix (qe_var 0) qe_int) qa_nil))) (qss_cons (qs_put (qe_op q_mod (qe_callTy q_int rfl T.n_int PyProof.Rows.boot_int (qa_cons (qe_op q_add (qe_op q_mul (qe_ix q_ix (qe_var 0) qe_int) qe_int) qe_int) qa_nil)) qe_int) (qe_var 0) qe_int) (qss_one (qs_ret (qe_op q_mod (qe_callTy q_int rfl T.n_int PyProof.Rows.boot_int (qa_cons (qe_op q_fdiv (qe_ix q_ix (qe_var 0) qe_int) qe_int) qa_nil)) (qe_var 1))))) qss_nil) (qss_cons (qs_set 2 sc_Ltaken.nd (qe_ix q_ix (qe_ix q_ix (qe_var 0) qe_int) (qe_op q_sub (qe_ix q_ix (qe_var 0) qe_int) qe_int))) (qss_cons (qs_put (qe_op q_mod (qe_callTy q_int rfl T.n_int PyProof.Rows.boot_int (qa_cons (qe_op q_add (qe_op q_add (qe_op q_mul (qe_ix q_ix (qe_var 0) qe_int) qe_int) (qe_var 2)) qe_int) qa_nil)) qe_int) (qe_var 0) qe_int) (qss_cons (qs_if (qt_cmp q_ge.op (qe_var 2) (qe_op q_pow qe_int qe_int)) (qss_one (qs_put (qe_op q_fdiv (qe_var 2) (qe_var 1)) (qe_var 0) qe_int)) qss_nil) (qss_one (qs_ret (qe_op q_mod (qe_callTy q_int rfl T.n_int PyProof.Rows.boot_int (qa_cons (qe_var 2) qa_nil)) (qe_var 1))))))))))
theorem ok_Lpick {P : Program} {w : World} {K : PySem.W.Frag} {mg : Str → Option Value} {base : Heap} (T : Txt K mg w) : Has P w K mg base 2 "_law_pick" 2 m_Lpick := has_of (N := ["row", "things"]) (ps := ["row", "things"]) (k := 1) T.d_Lpick sc_Lpick fun f cdv A outer s H E hr => (qss_one (qs_ret (qe_ix q_ix (qe_var 1) (qe_call (ok_Ltaken T) (hr.mono (by decide)) (takes_of rfl rfl rfl rfl) rfl (qa_cons (qe_var 0) (qa_cons (qe_callB q_len rfl T.n_len PySem.boot_len (qa_cons (qe_var 1) qa_nil)) qa_nil))))))
end K14
/-! part A2 -/
set_option Elab.async false
set_option linter.all false
set_option maxRecDepth 100000
set_option maxHeartbeats 0
namespace K14
open PySem PySem.Spec PyProof.Rows L2 LamX DD
theorem sc_law : FnScope ["script", "row", "things", "wide", "some", "plain", "steps", "one", "other", "first", "second", "k"] ["script"] (defScope s_law) := ⟨rfl, rfl, rfl, by decide +kernel, rfl, by decide +kernel, by decide +kernel⟩
def b_law : SM := (sSeq (sSet 1 (fMut (fCons (fVar 0) (fCons (fC (.int 0)) (fCons (fC (.int 16014)) (fCons (fC (.int 0)) fNil)))))) (sSeq (sSet 2 (fTup (fCons (fTup (fCons (fC (.str "queue")) (fCons (fC (.int 2)) (fCons (fC (.int 2)) fNil)))) (fCons (fTup (fCons (fC (.str "queue")) (fCons (fC (.int 2)) (fCons (fC (.int 2)) fNil)))) fNil)))) (sSeq (sPar 7 8 (fCons (fDef 2 m_Ltaken (fCons (fVar 1) (fCons (fC (.int 2)) fNil))) (fCons (fDef 2 m_Ltaken (fCons (fVar 1) (fCons (fC (.int 2)) fNil))) fNil))) (sSeq (sSet 3 (fTup (fCons (fTup (fCons (fC (.str "call")) (fCons (fC (.int 0)) (fCons (fC (.int 0)) (fCons (fTup (fCons (fC (.str "enter")) (fCons (fVar 7) fNil))) fNil))))) (fCons (fTup (fCons (fC (.str "answer")) (fCons (fC (.int 0)) (fCons (fC (.int 0)) (fCons (fC (.bool true)) fNil))))) (fCons (fTup (fCons (fC (.str "call")) (fCons (fC (.int 1)) (fCons (fC (.int 1)) (fCons (fTup (fCons (fC (.str "enter")) (fCons (fVar 8) fNil))) fNil))))) (fCons (fTup (fCons (fC (.str "answer")) (fCons (fC (.int 1)) (fCons (fC (.int 1)) (fCons (fC (.bool true)) fNil))))) fNil)))))) (sSeq (sSet 3 (fOp addP (fVar 3) (fTup (fCons (fTup (fCons (fC (.str "call")) (fCons (fC (.int 0)) (fCons (fC (.int 1)) (fCons (fTup (fCons (fC (.str "enter")) (fCons (fOp subP (fC (.int 1)) (fVar 8)) fNil))) fNil))))) (fCons (fTup (fCons (fC (.str "answer")) (fCons (fC (.int 0)) (fCons (fC (.int 1)) (fCons (fC (.bool true)) fNil))))) (fCons (fTup (fCons (fC (.str "call")) (fCons (fC (.int 1)) (fCons (fC (.int 0)) (fCons (fTup (fCons (fC (.str "enter")) (fCons (fOp subP (fC (.int 1)) (fVar 7)) fNil))) fNil))))) (fCons (fTup (fCons (fC (.str "answer")) (fCons (fC (.int 1)) (fCons (fC (.int 0)) (fCons (fC (.bool true)) fNil))))) fNil))))))) (sSeq (sPar 9 10 (fCons (fDef 2 m_Lpick (fCons (fVar 1) (fCons (fLst (fCons (fVar 7) (fCons (fOp subP (fC (.int 1)) (fVar 7)) fNil))) fNil))) (fCons (fDef 2 m_Lpick (fCons (fVar 1) (fCons (fLst (fCons (fVar 8) (fCons (fOp subP (fC (.int 1)) (fVar 8)) fNil))) fNil))) fNil))) (sSeq (sSet 3 (fOp addP (fVar 3) (fTup (fCons (fTup (fCons (fC (.str "call")) (fCons (fC (.int 0)) (fCons (fC (.int 0)) (fCons (fTup (fCons (fC (.str "leave")) fNil)) fNil))))) (fCons (fTup (fCons (fC (.str "answer")) (fCons (fC (.int 0)) (fCons (fC (.int 0)) (fCons (fVar 9) fNil))))) (fCons (fTup (fCons (fC (.str "call")) (fCons (fC (.int 1)) (fCons (fC (.int 1)) (fCons (fTup (fCons (fC (.str "leave")) fNil)) fNil))))) (fCons (fTup (fCons (fC (.str "answer")) (fCons (fC (.int 1)) (fCons (fC (.int 1)) (fCons (fVar 10) fNil))))) fNil))))))) (sSeq (sIf (fB (fOp isNotP (fDef 2 m_is_wide_history (fCons (fVar 2) (fCons (fVar 3) fNil))) (fC (.bool true)))) (sRet (fC (.bool false))) sPass) (sSeq (sSet 4 (fDef 2 m_parts (fCons (fVar 2) (fCons (fVar 3) fNil)))) (sSeq (sSet 5 (fComp (fItems (fLst (fCons (fC (.int 0)) (fCons (fC (.int 1)) fNil)))) (gN 11) fYes (fOp isNotP (fDef 2 m_explained (fCons (fOp ixP (fVar 2) (fVar 11)) (fCons (fOp ixP (fVar 4) (fVar 11)) fNil))) (fC .none)) [11])) (sSeq (sSet 6 (fComp (fItems (fLst (fCons (fC (.int 0)) (fCons (fC (.int 1)) fNil)))) (gN 11) fYes (fOp isNotP (fDef 2 m_in_step (fCons (fOp ixP (fVar 2) (fVar 11)) (fCons (fOp ixP (fVar 4) (fVar 11)) fNil))) (fC .none)) [11])) (sSeq (sIf (fOr (fB (fOp neP (fVar 5) (fLst (fCons (fOp eqP (fVar 9) (fVar 7)) (fCons (fOp eqP (fVar 10) (fVar 8)) fNil))))) (fB (fOp neP (fVar 6) (fLst (fCons (fC (.bool true)) (fCons (fC (.bool true)) fNil)))))) (sRet (fC (.bool false))) sPass) (sSeq (sIf (fB (fOp neP (fOp isNotP (fDef 2 m_explained_all (fCons (fVar 2) (fCons (fVar 3) fNil))) (fC .none)) (fOp eqP (fVar 5) (fLst (fCons (fC (.bool true)) (fCons (fC (.bool true)) fNil)))))) (sRet (fC (.bool false))) sPass) (sSeq (sIf (fB (fOp neP (fDef 2 m_in_step_all (fCons (fVar 2) (fCons (fVar 3) fNil))) (fOrV (fOp eqP (fVar 9) (fVar 7)) (fOp eqP (fVar 10) (fVar 8))))) (sRet (fC (.bool false))) sPass) (sSeq (sIf (fB (fOp neP (fComp (fItems (fLst (fCons (fC (.int 0)) (fCons (fC (.int 1)) fNil)))) (gN 11) fYes (fDef 2 m_first_wrong (fCons (fOp ixP (fVar 2) (fVar 11)) (fCons (fOp ixP (fVar 4) (fVar 11)) fNil))) [11]) (fComp (fItems (fLst (fCons (fC (.int 0)) (fCons (fC (.int 1)) fNil)))) (gN 11) fYes (fIte (fB (fOp ixP (fVar 5) (fVar 11))) (fC .none) (fC (.int 5))) [11]))) (sRet (fC (.bool false))) sPass) (sSeq (sIf (fB (fOp eqP (fVar 5) (fLst (fCons (fC (.bool true)) (fCons (fC (.bool true)) fNil))))) (sRet (fAndV (fOp eqP (fDef 3 m_woven (fCons (fVar 2) (fCons (fVar 3) (fCons (fTup (fCons (fTup (fCons (fC (.int 0)) (fCons (fC (.int 1)) (fCons (fC (.int 2)) fNil)))) (fCons (fTup (fCons (fC (.int 0)) (fCons (fC (.int 1)) (fCons (fC (.int 2)) fNil)))) fNil))) fNil)))) (fTup (fCons (fC (.int 0)) (fCons (fC (.int 1)) (fCons (fC (.int 2)) (fCons (fC (.int 3)) (fCons (fC (.int 4)) (fCons (fC (.int 5)) fNil)))))))) (fOp eqP (fDef 2 m_order_count (fCons (fOp ixP (fVar 2) (fC (.int 0))) (fCons (fOp ixP (fVar 4) (fC (.int 0))) fNil))) (fC (.int 1))))) sPass) (sRet (fC (.bool true)))))))))))))))))))
def m_law : List Vl → M Vl := mDef 12 b_law
theorem fn_law {P : Program} {w : World} {K : PySem.W.Frag} {mg : Str → Option Value} {base : Heap} (T : Txt K mg w) {f : Addr} {fd : FuncData} (F : Fun K "law" "law" s_law f fd) : FnOk P w K mg base (L2.CX P w) 15 f fd ["script"] (spM w K mg 1 m_law) :=
  fn_def (N := ["script", "row", "things", "wide", "some", "plain", "steps", "one", "other", "first", "second", "k"]) (ps := ["script"]) (k := 14) F sc_law fun cdv A outer s H E hr => (qss_cons (qs_set 1 sc_law.nd (qe_mut (qa_cons (qe_var 0) (qa_cons qe_int (qa_cons qe_int (qa_cons qe_int qa_nil)))))) (qss_cons (qs_set 2 sc_law.nd (qe_tup (qa_cons (qe_tup (qa_cons qe_str (qa_cons qe_int (qa_cons qe_int qa_nil)))) (qa_cons (qe_tup (qa_cons qe_str (qa_cons qe_int (qa_cons qe_int qa_nil)))) qa_nil)))) (qss_cons (qs_par 7 8 rfl sc_law.nd (qa_cons (qe_call (ok_Ltaken T) (hr.mono (by decide)) (takes_of rfl rfl rfl rfl) rfl (qa_cons (qe_var 1) (qa_cons qe_int qa_nil))) (qa_cons (qe_call (ok_Ltaken T) (hr.mono (by decide)) (takes_of rfl rfl rfl rfl) rfl (qa_cons (qe_var 1) (qa_cons qe_int qa_nil))) qa_nil))) (qss_cons (qs_set 3 sc_law.nd (qe_tup (qa_cons (qe_tup (qa_cons qe_str (qa_cons qe_int (qa_cons qe_int (qa_cons (qe_tup (qa_cons qe_str (qa_cons (qe_var 7) qa_nil))) qa_nil))))) (qa_cons (qe_tup (qa_cons qe_str (qa_cons qe_int (qa_cons qe_int (qa_cons qe_bl qa_nil))))) (qa_cons (qe_tup (qa_cons qe_str (qa_cons qe_int (qa_cons qe_int (qa_cons (qe_tup (qa_cons qe_str (qa_cons (qe_var 8) qa_nil))) qa_nil))))) (qa_cons (qe_tup (qa_cons qe_str (qa_cons qe_int (qa_cons qe_int (qa_cons qe_bl qa_nil))))) qa_nil)))))) (qss_cons (qs_set 3 sc_law.nd (qe_op q_add (qe_var 3) (qe_tup (qa_cons (qe_tup (qa_cons qe_str (qa_cons qe_int (qa_cons qe_int (qa_cons (qe_tup (qa_cons qe_str (qa_cons (qe_op q_sub qe_int (qe_var 8)) qa_nil))) qa_nil))))) (qa_cons (qe_tup (qa_cons qe_str (qa_cons qe_int (qa_cons qe_int (qa_cons qe_bl qa_nil))))) (qa_cons (qe_tup (qa_cons qe_str (qa_cons qe_int (qa_cons qe_int (qa_cons (qe_tup (qa_cons qe_str (qa_cons (qe_op q_sub qe_int (qe_var 7)) qa_nil))) qa_nil))))) (qa_cons (qe_tup (qa_cons qe_str (qa_cons qe_int (qa_cons qe_int (qa_cons qe_bl qa_nil))))) qa_nil))))))) (qss_cons (qs_par 9 10 rfl sc_law.nd (qa_cons (qe_call (ok_Lpick T) (hr.mono (by decide)) (takes_of rfl rfl rfl rfl) rfl (qa_cons (qe_var 1) (qa_cons (qe_lst (qa_cons (qe_var 7) (qa_cons (qe_op q_sub qe_int (qe_var 7)) qa_nil))) qa_nil))) (qa_cons (qe_call (ok_Lpick T) (hr.mono (by decide)) (takes_of rfl rfl rfl rfl) rfl (qa_cons (qe_var 1) (qa_cons (qe_lst (qa_cons (qe_var 8) (qa_cons (qe_op q_sub qe_int (qe_var 8)) qa_nil))) qa_nil))) qa_nil))) (qss_cons (qs_set 3 sc_law.nd (qe_op q_add (qe_var 3) (qe_tup (qa_cons (qe_tup (qa_cons qe_str (qa_cons qe_int (qa_cons qe_int (qa_cons (qe_tup (qa_cons qe_str qa_nil)) qa_nil))))) (qa_cons (qe_tup (qa_cons qe_str (qa_cons qe_int (qa_cons qe_int (qa_cons (qe_var 9) qa_nil))))) (qa_cons (qe_tup (qa_cons qe_str (qa_cons qe_int (qa_cons qe_int (qa_cons (qe_tup (qa_cons qe_str qa_nil)) qa_nil))))) (qa_cons (qe_tup (qa_cons qe_str (qa_cons qe_int (qa_cons qe_int (qa_cons (qe_var 10) qa_nil))))) qa_nil))))))) (qss_cons (qs_if (qt_cmp q_isNot.op (qe_call (ok_is_wide_history T) (hr.mono (by decide)) (takes_of rfl rfl rfl rfl) rfl (qa_cons (qe_var 2) (qa_cons (qe_var 3) qa_nil))) qe_bl) (qss_one (qs_ret qe_bl)) qss_nil) (qss_cons (qs_set 4 sc_law.nd (qe_call (ok_parts T) (hr.mono (by decide)) (takes_of rfl rfl rfl rfl) rfl (qa_cons (qe_var 2) (qa_cons (qe_var 3) qa_nil)))) (qss_cons (qs_set 5 sc_law.nd (qe_comp (own := [("k", 11)]) rfl sc_law.nd (qi_sq (qe_lst (qa_cons qe_int (qa_cons qe_int qa_nil)))) (blkOk_by (N := ["script", "row", "things", "wide", "some", "plain", "steps", "one", "other", "first", "second", "k"]) (sc := defScope s_law) (own := [("k", 11)]) (by decide +kernel)) (fun _ _ _ _ _ => (qg_name 11 sc_law.nd)) (fun _ _ _ _ _ => qts_nil) (fun _ _ _ _ _ => (qe_cmp q_isNot.op (qe_call (ok_explained T) (hr.mono (by decide)) takes0 rfl (qa_cons (qe_ix q_ix (qe_var 2) (qe_var 11)) (qa_cons (qe_ix q_ix (qe_var 4) (qe_var 11)) qa_nil))) qe_non)))) (qss_cons (qs_comp (own := [("k", 11)]) 6 rfl sc_law.nd (qi_sq (qe_lst (qa_cons qe_int (qa_cons qe_int qa_nil)))) (blkOk_by (N := ["script", "row", "things", "wide", "some", "plain", "steps", "one", "other", "first", "second", "k"]) (sc := defScope s_law) (own := [("k", 11)]) (by decide +kernel)) (fun _ _ _ _ _ => (qg_name 11 sc_law.nd)) (fun _ _ _ _ _ => qts_nil) (fun _ _ _ _ _ => (qe_cmp q_isNot.op (qe_call (ok_in_step T) (hr.mono (by decide)) takes0 rfl (qa_cons (qe_ix q_ix (qe_var 2) (qe_var 11)) (qa_cons (qe_ix q_ix (qe_var 4) (qe_var 11)) qa_nil))) qe_non)) (sw_true rfl rfl rfl (by decide +kernel))) (qss_cons (qs_if (QW.qt (qw_or (qt_cmp (q_ne (hu64 hr)).op (qe_var 5) (qe_lst (qa_cons (qe_cmp (q_eq (hu64 hr)).op (qe_var 9) (qe_var 7)) (qa_cons (qe_cmp (q_eq (hu64 hr)).op (qe_var 10) (qe_var 8)) qa_nil)))) (qw_or1 (qt_cmp (q_ne (hu64 hr)).op (qe_var 6) (qe_lst (qa_cons qe_bl (qa_cons qe_bl qa_nil))))))) (qss_one (qs_ret qe_bl)) qss_nil) (qss_cons (qs_if (qt_cmp (q_ne (hu64 hr)).op (qe_cmp q_isNot.op (qe_call (ok_explained_all T) (hr.mono (by decide)) (takes_of rfl rfl rfl rfl) rfl (qa_cons (qe_var 2) (qa_cons (qe_var 3) qa_nil))) qe_non) (qe_cmp (q_eq (hu64 hr)).op (qe_var 5) (qe_lst (qa_cons qe_bl (qa_cons qe_bl qa_nil))))) (qss_one (qs_ret qe_bl)) qss_nil) (qss_cons (qs_if (qt_cmp (q_ne (hu64 hr)).op (qe_call (ok_in_step_all T) (hr.mono (by decide)) (takes_of rfl rfl rfl rfl) rfl (qa_cons (qe_var 2) (qa_cons (qe_var 3) qa_nil))) (qe_or (qe_cmp (q_eq (hu64 hr)).op (qe_var 9) (qe_var 7)) (qe_one (qe_cmp (q_eq (hu64 hr)).op (qe_var 10) (qe_var 8))))) (qss_one (qs_ret qe_bl)) qss_nil) (qss_cons (qs_if (qt_cmp (q_ne (hu64 hr)).op (qe_comp (own := [("k", 11)]) rfl sc_law.nd (qi_sq (qe_lst (qa_cons qe_int (qa_cons qe_int qa_nil)))) (blkOk_by (N := ["script", "row", "things", "wide", "some", "plain", "steps", "one", "other", "first", "second", "k"]) (sc := defScope s_law) (own := [("k", 11)]) (by decide +kernel)) (fun _ _ _ _ _ => (qg_name 11 sc_law.nd)) (fun _ _ _ _ _ => qts_nil) (fun _ _ _ _ _ => (qe_call (ok_first_wrong T) (hr.mono (by decide)) takes0 rfl (qa_cons (qe_ix q_ix (qe_var 2) (qe_var 11)) (qa_cons (qe_ix q_ix (qe_var 4) (qe_var 11)) qa_nil))))) (qe_comp (own := [("k", 11)]) rfl sc_law.nd (qi_sq (qe_lst (qa_cons qe_int (qa_cons qe_int qa_nil)))) (blkOk_by (N := ["script", "row", "things", "wide", "some", "plain", "steps", "one", "other", "first", "second", "k"]) (sc := defScope s_law) (own := [("k", 11)]) (by decide +kernel)) (fun _ _ _ _ _ => (qg_name 11 sc_law.nd)) (fun _ _ _ _ _ => qts_nil) (fun _ _ _ _ _ => (qe_ite (qt_val (qe_ix q_ix (qe_var 5) (qe_var 11))) qe_non qe_int)))) (qss_one (qs_ret qe_bl)) qss_nil) (qss_cons (qs_if (qt_cmp (q_eq (hu64 hr)).op (qe_var 5) (qe_lst (qa_cons qe_bl (qa_cons qe_bl qa_nil)))) (qss_one (qs_ret (qe_and (qe_cmp (q_eq (hu64 hr)).op (qe_call (ok_woven T) (hr.mono (by decide)) (takes_of rfl rfl rfl rfl) rfl (qa_cons (qe_var 2) (qa_cons (qe_var 3) (qa_cons (qe_tup (qa_cons (qe_tup (qa_cons qe_int (qa_cons qe_int (qa_cons qe_int qa_nil)))) (qa_cons (qe_tup (qa_cons qe_int (qa_cons qe_int (qa_cons qe_int qa_nil)))) qa_nil))) qa_nil)))) (qe_tup (qa_cons qe_int (qa_cons qe_int (qa_cons qe_int (qa_cons qe_int (qa_cons qe_int (qa_cons qe_int qa_nil)))))))) (qe_one (qe_cmp (q_eq (hu64 hr)).op (qe_call (ok_order_count T) (hr.mono (by decide)) (takes_of rfl rfl rfl rfl) rfl (qa_cons (qe_ix q_ix (qe_var 2) qe_int) (qa_cons (qe_ix q_ix (qe_var 4) qe_int) qa_nil))) qe_int))))) qss_nil) (qss_one (qs_ret qe_bl))))))))))))))))))
def lawP (ns : List Int) : Prop := ∃ S, m_law [.d (.list (ns.map PyData.int))] [] = some (.ok (.d (.bool true)), S)
end K14
/-! part A3 -/
set_option Elab.async false
set_option linter.all false
set_option maxRecDepth 100000
set_option maxHeartbeats 0
namespace K14
open PySem PySem.Spec PyProof.Rows L2 LamX DD
section
variable {K : PySem.W.Frag} {h : Heap} {mg : Str → Option Value} {w : World} (X : K.In h) (G : h.Ns mainGlobals mg) (c : He.SaysX fas fns tsK tfK exK w h K)
include X G c
theorem x_is_integer : DefAt K mg "is_integer" s_is_integer ["value"] := defAt_of X G (c.t.d.def_ 0 (d := dd_is_integer) rfl) (c.t.d.fact 0 (f := He.Fa.glo "is_integer") rfl) (fun _ _ _ _ _ _ us hl => match us, hl with | [_], _ => rfl)
theorem x_is_within : DefAt K mg "is_within" s_is_within ["value", "low", "high"] := defAt_of X G (c.t.d.def_ 1 (d := dd_is_within) rfl) (c.t.d.fact 1 (f := He.Fa.glo "is_within") rfl) (fun _ _ _ _ _ _ us hl => match us, hl with | [_, _, _], _ => rfl)
theorem x_same : DefAt K mg "same" s_same ["one", "other"] := defAt_of X G (c.t.d.def_ 2 (d := dd_same) rfl) (c.t.d.fact 2 (f := He.Fa.glo "same") rfl) (fun _ _ _ _ _ _ us hl => match us, hl with | [_, _], _ => rfl)
theorem x_counter_calls : DefAt K mg "_counter_calls" s_counter_calls ["thing"] := defAt_of X G (c.t.d.def_ 3 (d := dd_counter_calls) rfl) (c.t.d.fact 3 (f := He.Fa.glo "_counter_calls") rfl) (fun _ _ _ _ _ _ us hl => match us, hl with | [_], _ => rfl)
theorem x_register_calls : DefAt K mg "_register_calls" s_register_calls ["thing"] := defAt_of X G (c.t.d.def_ 4 (d := dd_register_calls) rfl) (c.t.d.fact 4 (f := He.Fa.glo "_register_calls") rfl) (fun _ _ _ _ _ _ us hl => match us, hl with | [_], _ => rfl)
theorem x_stack_calls : DefAt K mg "_stack_calls" s_stack_calls ["thing"] := defAt_of X G (c.t.d.def_ 5 (d := dd_stack_calls) rfl) (c.t.d.fact 5 (f := He.Fa.glo "_stack_calls") rfl) (fun _ _ _ _ _ _ us hl => match us, hl with | [_], _ => rfl)
theorem x_queue_calls : DefAt K mg "_queue_calls" s_queue_calls ["thing"] := defAt_of X G (c.t.d.def_ 6 (d := dd_queue_calls) rfl) (c.t.d.fact 6 (f := He.Fa.glo "_queue_calls") rfl) (fun _ _ _ _ _ _ us hl => match us, hl with | [_], _ => rfl)
theorem x_set_calls : DefAt K mg "_set_calls" s_set_calls ["thing"] := defAt_of X G (c.t.d.def_ 7 (d := dd_set_calls) rfl) (c.t.d.fact 7 (f := He.Fa.glo "_set_calls") rfl) (fun _ _ _ _ _ _ us hl => match us, hl with | [_], _ => rfl)
theorem x_agree_calls : DefAt K mg "_agree_calls" s_agree_calls ["thing"] := defAt_of X G (c.t.d.def_ 8 (d := dd_agree_calls) rfl) (c.t.d.fact 8 (f := He.Fa.glo "_agree_calls") rfl) (fun _ _ _ _ _ _ us hl => match us, hl with | [_], _ => rfl)
theorem x_bank_calls : DefAt K mg "_bank_calls" s_bank_calls ["thing"] := defAt_of X G (c.t.d.def_ 9 (d := dd_bank_calls) rfl) (c.t.d.fact 9 (f := He.Fa.glo "_bank_calls") rfl) (fun _ _ _ _ _ _ us hl => match us, hl with | [_], _ => rfl)
theorem x_table_calls : DefAt K mg "_table_calls" s_table_calls ["thing"] := defAt_of X G (c.t.d.def_ 10 (d := dd_table_calls) rfl) (c.t.d.fact 10 (f := He.Fa.glo "_table_calls") rfl) (fun _ _ _ _ _ _ us hl => match us, hl with | [_], _ => rfl)
theorem x_call_rows : DefAt K mg "call_rows" s_call_rows ["thing"] := defAt_of X G (c.t.d.def_ 11 (d := dd_call_rows) rfl) (c.t.d.fact 11 (f := He.Fa.glo "call_rows") rfl) (fun _ _ _ _ _ _ us hl => match us, hl with | [_], _ => rfl)
theorem x_has_call : DefAt K mg "has_call" s_has_call ["thing", "value"] := defAt_of X G (c.t.d.def_ 12 (d := dd_has_call) rfl) (c.t.d.fact 12 (f := He.Fa.glo "has_call") rfl) (fun _ _ _ _ _ _ us hl => match us, hl with | [_, _], _ => rfl)
theorem x_is_thread : DefAt K mg "is_thread" s_is_thread ["value"] := defAt_of X G (c.t.d.def_ 13 (d := dd_is_thread) rfl) (c.t.d.fact 13 (f := He.Fa.glo "is_thread") rfl) (fun _ _ _ _ _ _ us hl => match us, hl with | [_], _ => rfl)
theorem x_is_answer : DefAt K mg "_is_answer" s_is_answer ["value"] := defAt_of X G (c.t.d.def_ 14 (d := dd_is_answer) rfl) (c.t.d.fact 14 (f := He.Fa.glo "_is_answer") rfl) (fun _ _ _ _ _ _ us hl => match us, hl with | [_], _ => rfl)
theorem x_can_come : DefAt K mg "_can_come" s_can_come ["things", "places", "event"] := defAt_of X G (c.t.d.def_ 15 (d := dd_can_come) rfl) (c.t.d.fact 15 (f := He.Fa.glo "_can_come") rfl) (fun _ _ _ _ _ _ us hl => match us, hl with | [_, _, _], _ => rfl)
theorem x_wrong_place : DefAt K mg "wrong_place" s_wrong_place ["things", "wide"] := defAt_of X G (c.t.d.def_ 16 (d := dd_wrong_place) rfl) (c.t.d.fact 16 (f := He.Fa.glo "wrong_place") rfl) (fun _ _ _ _ _ _ us hl => match us, hl with | [_, _], _ => rfl)
theorem x_has_wide_history : DefAt K mg "has_wide_history" s_has_wide_history ["things", "value"] := defAt_of X G (c.t.d.def_ 17 (d := dd_has_wide_history) rfl) (c.t.d.fact 17 (f := He.Fa.glo "has_wide_history") rfl) (fun _ _ _ _ _ _ us hl => match us, hl with | [_, _], _ => rfl)
theorem x_has_size : DefAt K mg "_has_size" s_has_size ["value"] := defAt_of X G (c.t.d.def_ 18 (d := dd_has_size) rfl) (c.t.d.fact 18 (f := He.Fa.glo "_has_size") rfl) (fun _ _ _ _ _ _ us hl => match us, hl with | [_], _ => rfl)
theorem x_has_room_and_size : DefAt K mg "_has_room_and_size" s_has_room_and_size ["value"] := defAt_of X G (c.t.d.def_ 19 (d := dd_has_room_and_size) rfl) (c.t.d.fact 19 (f := He.Fa.glo "_has_room_and_size") rfl) (fun _ _ _ _ _ _ us hl => match us, hl with | [_], _ => rfl)
theorem x_are_within : DefAt K mg "are_within" s_are_within ["value", "low", "high"] := defAt_of X G (c.t.d.def_ 20 (d := dd_are_within) rfl) (c.t.d.fact 20 (f := He.Fa.glo "are_within") rfl) (fun _ _ _ _ _ _ us hl => match us, hl with | [_, _, _], _ => rfl)
theorem x_has_amounts : DefAt K mg "_has_amounts" s_has_amounts ["value"] := defAt_of X G (c.t.d.def_ 21 (d := dd_has_amounts) rfl) (c.t.d.fact 21 (f := He.Fa.glo "_has_amounts") rfl) (fun _ _ _ _ _ _ us hl => match us, hl with | [_], _ => rfl)
theorem x_is_pair : DefAt K mg "_is_pair" s_is_pair ["value", "many"] := defAt_of X G (c.t.d.def_ 22 (d := dd_is_pair) rfl) (c.t.d.fact 22 (f := He.Fa.glo "_is_pair") rfl) (fun _ _ _ _ _ _ us hl => match us, hl with | [_, _], _ => rfl)
theorem x_is_row : DefAt K mg "_is_row" s_is_row ["value", "many"] := defAt_of X G (c.t.d.def_ 23 (d := dd_is_row) rfl) (c.t.d.fact 23 (f := He.Fa.glo "_is_row") rfl) (fun _ _ _ _ _ _ us hl => match us, hl with | [_, _], _ => rfl)
theorem x_has_rows : DefAt K mg "_has_rows" s_has_rows ["value"] := defAt_of X G (c.t.d.def_ 24 (d := dd_has_rows) rfl) (c.t.d.fact 24 (f := He.Fa.glo "_has_rows") rfl) (fun _ _ _ _ _ _ us hl => match us, hl with | [_], _ => rfl)
theorem x_has_form : DefAt K mg "has_form" s_has_form ["value"] := defAt_of X G (c.t.d.def_ 25 (d := dd_has_form) rfl) (c.t.d.fact 25 (f := He.Fa.glo "has_form") rfl) (fun _ _ _ _ _ _ us hl => match us, hl with | [_], _ => rfl)
theorem x_check_object : DefAt K mg "check_object" s_check_object ["value"] := defAt_of X G (c.t.d.def_ 26 (d := dd_check_object) rfl) (c.t.d.fact 26 (f := He.Fa.glo "check_object") rfl) (fun _ _ _ _ _ _ us hl => match us, hl with | [_], _ => rfl)
theorem x_check_things : DefAt K mg "check_things" s_check_things ["value"] := defAt_of X G (c.t.d.def_ 27 (d := dd_check_things) rfl) (c.t.d.fact 27 (f := He.Fa.glo "check_things") rfl) (fun _ _ _ _ _ _ us hl => match us, hl with | [_], _ => rfl)
theorem x_is_wide_history : DefAt K mg "is_wide_history" s_is_wide_history ["things", "value"] := defAt_of X G (c.t.d.def_ 28 (d := dd_is_wide_history) rfl) (c.t.d.fact 28 (f := He.Fa.glo "is_wide_history") rfl) (fun _ _ _ _ _ _ us hl => match us, hl with | [_, _], _ => rfl)
theorem x_check_wide_history : DefAt K mg "check_wide_history" s_check_wide_history ["things", "value"] := defAt_of X G (c.t.d.def_ 29 (d := dd_check_wide_history) rfl) (c.t.d.fact 29 (f := He.Fa.glo "check_wide_history") rfl) (fun _ _ _ _ _ _ us hl => match us, hl with | [_, _], _ => rfl)
theorem x_check : DefAt K mg "_check" s_check ["things", "history"] := defAt_of X G (c.t.d.def_ 30 (d := dd_check) rfl) (c.t.d.fact 30 (f := He.Fa.glo "_check") rfl) (fun _ _ _ _ _ _ us hl => match us, hl with | [_, _], _ => rfl)
theorem x_narrowed : DefAt K mg "narrowed" s_narrowed ["wide", "place"] := defAt_of X G (c.t.d.def_ 31 (d := dd_narrowed) rfl) (c.t.d.fact 31 (f := He.Fa.glo "narrowed") rfl) (fun _ _ _ _ _ _ us hl => match us, hl with | [_, _], _ => rfl)
theorem x_all_parts : DefAt K mg "_all_parts" s_all_parts ["things", "history"] := defAt_of X G (c.t.d.def_ 32 (d := dd_all_parts) rfl) (c.t.d.fact 32 (f := He.Fa.glo "_all_parts") rfl) (fun _ _ _ _ _ _ us hl => match us, hl with | [_, _], _ => rfl)
theorem x_parts : DefAt K mg "parts" s_parts ["things", "history"] := defAt_of X G (c.t.d.def_ 33 (d := dd_parts) rfl) (c.t.d.fact 33 (f := He.Fa.glo "parts") rfl) (fun _ _ _ _ _ _ us hl => match us, hl with | [_, _], _ => rfl)
theorem x_widened_event : DefAt K mg "_widened_event" s_widened_event ["event"] := defAt_of X G (c.t.d.def_ 34 (d := dd_widened_event) rfl) (c.t.d.fact 34 (f := He.Fa.glo "_widened_event") rfl) (fun _ _ _ _ _ _ us hl => match us, hl with | [_], _ => rfl)
theorem x_widened : DefAt K mg "widened" s_widened ["history"] := defAt_of X G (c.t.d.def_ 35 (d := dd_widened) rfl) (c.t.d.fact 35 (f := He.Fa.glo "widened") rfl) (fun _ _ _ _ _ _ us hl => match us, hl with | [_], _ => rfl)
theorem x_Span_init : InitAt K mg "Span" "Span.__init__" s_Span_init ["self", "thread", "place", "call", "begin"] := initAt_of X G (c.t.d.def_ 36 (d := dd_Span_init) rfl) (c.t.d.fact 92 (f := He.Fa.glo "Span") rfl) (c.t.d.fact 104 (f := He.Fa.mkr "Span") rfl) (fun _ _ _ _ _ _ us hl => match us, hl with | [_, _, _, _, _], _ => rfl)
theorem x_spans_in : DefAt K mg "spans_in" s_spans_in ["wide"] := defAt_of X G (c.t.d.def_ 37 (d := dd_spans_in) rfl) (c.t.d.fact 36 (f := He.Fa.glo "spans_in") rfl) (fun _ _ _ _ _ _ us hl => match us, hl with | [_], _ => rfl)
theorem x_is_ahead : DefAt K mg "_is_ahead" s_is_ahead ["one", "other"] := defAt_of X G (c.t.d.def_ 38 (d := dd_is_ahead) rfl) (c.t.d.fact 37 (f := He.Fa.glo "_is_ahead") rfl) (fun _ _ _ _ _ _ us hl => match us, hl with | [_, _], _ => rfl)
theorem x_ahead_of_each : DefAt K mg "ahead_of_each" s_ahead_of_each ["spans"] := defAt_of X G (c.t.d.def_ 39 (d := dd_ahead_of_each) rfl) (c.t.d.fact 38 (f := He.Fa.glo "ahead_of_each") rfl) (fun _ _ _ _ _ _ us hl => match us, hl with | [_], _ => rfl)
theorem x_ended : DefAt K mg "_ended" s_ended ["spans"] := defAt_of X G (c.t.d.def_ 40 (d := dd_ended) rfl) (c.t.d.fact 39 (f := He.Fa.glo "_ended") rfl) (fun _ _ _ _ _ _ us hl => match us, hl with | [_], _ => rfl)
theorem x_start : DefAt K mg "start" s_start ["thing"] := defAt_of X G (c.t.d.def_ 41 (d := dd_start) rfl) (c.t.d.fact 40 (f := He.Fa.glo "start") rfl) (fun _ _ _ _ _ _ us hl => match us, hl with | [_], _ => rfl)
theorem x_starts : DefAt K mg "_starts" s_starts ["things"] := defAt_of X G (c.t.d.def_ 42 (d := dd_starts) rfl) (c.t.d.fact 41 (f := He.Fa.glo "_starts") rfl) (fun _ _ _ _ _ _ us hl => match us, hl with | [_], _ => rfl)
theorem x_counter_step : DefAt K mg "_counter_step" s_counter_step ["thing", "state", "call"] := defAt_of X G (c.t.d.def_ 43 (d := dd_counter_step) rfl) (c.t.d.fact 42 (f := He.Fa.glo "_counter_step") rfl) (fun _ _ _ _ _ _ us hl => match us, hl with | [_, _, _], _ => rfl)
theorem x_register_step : DefAt K mg "_register_step" s_register_step ["thing", "state", "call"] := defAt_of X G (c.t.d.def_ 44 (d := dd_register_step) rfl) (c.t.d.fact 43 (f := He.Fa.glo "_register_step") rfl) (fun _ _ _ _ _ _ us hl => match us, hl with | [_, _, _], _ => rfl)
theorem x_put_at_end : DefAt K mg "_put_at_end" s_put_at_end ["thing", "state", "k"] := defAt_of X G (c.t.d.def_ 45 (d := dd_put_at_end) rfl) (c.t.d.fact 44 (f := He.Fa.glo "_put_at_end") rfl) (fun _ _ _ _ _ _ us hl => match us, hl with | [_, _, _], _ => rfl)
theorem x_stack_step : DefAt K mg "_stack_step" s_stack_step ["thing", "state", "call"] := defAt_of X G (c.t.d.def_ 46 (d := dd_stack_step) rfl) (c.t.d.fact 45 (f := He.Fa.glo "_stack_step") rfl) (fun _ _ _ _ _ _ us hl => match us, hl with | [_, _, _], _ => rfl)
theorem x_queue_step : DefAt K mg "_queue_step" s_queue_step ["thing", "state", "call"] := defAt_of X G (c.t.d.def_ 47 (d := dd_queue_step) rfl) (c.t.d.fact 46 (f := He.Fa.glo "_queue_step") rfl) (fun _ _ _ _ _ _ us hl => match us, hl with | [_, _, _], _ => rfl)
theorem x_set_step : DefAt K mg "_set_step" s_set_step ["thing", "state", "call"] := defAt_of X G (c.t.d.def_ 48 (d := dd_set_step) rfl) (c.t.d.fact 47 (f := He.Fa.glo "_set_step") rfl) (fun _ _ _ _ _ _ us hl => match us, hl with | [_, _, _], _ => rfl)
theorem x_agree_step : DefAt K mg "_agree_step" s_agree_step ["thing", "state", "call"] := defAt_of X G (c.t.d.def_ 49 (d := dd_agree_step) rfl) (c.t.d.fact 48 (f := He.Fa.glo "_agree_step") rfl) (fun _ _ _ _ _ _ us hl => match us, hl with | [_, _, _], _ => rfl)
theorem x_bank_step : DefAt K mg "_bank_step" s_bank_step ["thing", "state", "call"] := defAt_of X G (c.t.d.def_ 50 (d := dd_bank_step) rfl) (c.t.d.fact 49 (f := He.Fa.glo "_bank_step") rfl) (fun _ _ _ _ _ _ us hl => match us, hl with | [_, _, _], _ => rfl)
theorem x_table_step : DefAt K mg "_table_step" s_table_step ["thing", "state", "call"] := defAt_of X G (c.t.d.def_ 51 (d := dd_table_step) rfl) (c.t.d.fact 50 (f := He.Fa.glo "_table_step") rfl) (fun _ _ _ _ _ _ us hl => match us, hl with | [_, _, _], _ => rfl)
theorem x_step : DefAt K mg "step" s_step ["thing", "state", "call"] := defAt_of X G (c.t.d.def_ 52 (d := dd_step) rfl) (c.t.d.fact 51 (f := He.Fa.glo "step") rfl) (fun _ _ _ _ _ _ us hl => match us, hl with | [_, _, _], _ => rfl)
theorem x_states_behind : DefAt K mg "_states_behind" s_states_behind ["things", "states", "span"] := defAt_of X G (c.t.d.def_ 53 (d := dd_states_behind) rfl) (c.t.d.fact 52 (f := He.Fa.glo "_states_behind") rfl) (fun _ _ _ _ _ _ us hl => match us, hl with | [_, _, _], _ => rfl)
theorem x_can_stand : DefAt K mg "_can_stand" s_can_stand ["held", "needed", "at"] := defAt_of X G (c.t.d.def_ 54 (d := dd_can_stand) rfl) (c.t.d.fact 53 (f := He.Fa.glo "_can_stand") rfl) (fun _ _ _ _ _ _ us hl => match us, hl with | [_, _, _], _ => rfl)
theorem x_is_order : DefAt K mg "is_order" s_is_order ["things", "spans", "needs", "value"] := defAt_of X G (c.t.d.def_ 55 (d := dd_is_order) rfl) (c.t.d.fact 54 (f := He.Fa.glo "is_order") rfl) (fun _ _ _ _ _ _ us hl => match us, hl with | [_, _, _, _], _ => rfl)
theorem x_numbers : DefAt K mg "_numbers" s_numbers ["spans", "place", "order"] := defAt_of X G (c.t.d.def_ 56 (d := dd_numbers) rfl) (c.t.d.fact 55 (f := He.Fa.glo "_numbers") rfl) (fun _ _ _ _ _ _ us hl => match us, hl with | [_, _, _], _ => rfl)
theorem x_weave : DefAt K mg "_weave" s_weave ["things", "spans", "orders"] := defAt_of X G (c.t.d.def_ 57 (d := dd_weave) rfl) (c.t.d.fact 56 (f := He.Fa.glo "_weave") rfl) (fun _ _ _ _ _ _ us hl => match us, hl with | [_, _, _], _ => rfl)
theorem x_woven : DefAt K mg "woven" s_woven ["things", "history", "orders"] := defAt_of X G (c.t.d.def_ 58 (d := dd_woven) rfl) (c.t.d.fact 57 (f := He.Fa.glo "woven") rfl) (fun _ _ _ _ _ _ us hl => match us, hl with | [_, _, _], _ => rfl)
theorem x_following : DefAt K mg "_following" s_following ["things", "spans", "needs", "node"] := defAt_of X G (c.t.d.def_ 59 (d := dd_following) rfl) (c.t.d.fact 58 (f := He.Fa.glo "_following") rfl) (fun _ _ _ _ _ _ us hl => match us, hl with | [_, _, _, _], _ => rfl)
theorem x_find_order : DefAt K mg "find_order" s_find_order ["things", "spans", "needs"] := defAt_of X G (c.t.d.def_ 60 (d := dd_find_order) rfl) (c.t.d.fact 59 (f := He.Fa.glo "find_order") rfl) (fun _ _ _ _ _ _ us hl => match us, hl with | [_, _, _], _ => rfl)
theorem x_explained_all : DefAt K mg "explained_all" s_explained_all ["things", "history"] := defAt_of X G (c.t.d.def_ 61 (d := dd_explained_all) rfl) (c.t.d.fact 60 (f := He.Fa.glo "explained_all") rfl) (fun _ _ _ _ _ _ us hl => match us, hl with | [_, _], _ => rfl)
theorem x_is_own_before : DefAt K mg "_is_own_before" s_is_own_before ["one", "other"] := defAt_of X G (c.t.d.def_ 62 (d := dd_is_own_before) rfl) (c.t.d.fact 61 (f := He.Fa.glo "_is_own_before") rfl) (fun _ _ _ _ _ _ us hl => match us, hl with | [_, _], _ => rfl)
theorem x_own_before_each : DefAt K mg "own_before_each" s_own_before_each ["spans"] := defAt_of X G (c.t.d.def_ 63 (d := dd_own_before_each) rfl) (c.t.d.fact 62 (f := He.Fa.glo "own_before_each") rfl) (fun _ _ _ _ _ _ us hl => match us, hl with | [_], _ => rfl)
theorem x_in_step_all : DefAt K mg "in_step_all" s_in_step_all ["things", "history"] := defAt_of X G (c.t.d.def_ 64 (d := dd_in_step_all) rfl) (c.t.d.fact 63 (f := He.Fa.glo "in_step_all") rfl) (fun _ _ _ _ _ _ us hl => match us, hl with | [_, _], _ => rfl)
theorem x_check_history : DefAt K mg "check_history" s_check_history ["thing", "value"] := defAt_of X G (c.t.d.def_ 65 (d := dd_check_history) rfl) (c.t.d.fact 64 (f := He.Fa.glo "check_history") rfl) (fun _ _ _ _ _ _ us hl => match us, hl with | [_, _], _ => rfl)
theorem x_checked_spans : DefAt K mg "_checked_spans" s_checked_spans ["thing", "history"] := defAt_of X G (c.t.d.def_ 66 (d := dd_checked_spans) rfl) (c.t.d.fact 65 (f := He.Fa.glo "_checked_spans") rfl) (fun _ _ _ _ _ _ us hl => match us, hl with | [_, _], _ => rfl)
theorem x_explained : DefAt K mg "explained" s_explained ["thing", "history"] := defAt_of X G (c.t.d.def_ 67 (d := dd_explained) rfl) (c.t.d.fact 66 (f := He.Fa.glo "explained") rfl) (fun _ _ _ _ _ _ us hl => match us, hl with | [_, _], _ => rfl)
theorem x_count_orders : DefAt K mg "count_orders" s_count_orders ["things", "spans", "needs"] := defAt_of X G (c.t.d.def_ 68 (d := dd_count_orders) rfl) (c.t.d.fact 67 (f := He.Fa.glo "count_orders") rfl) (fun _ _ _ _ _ _ us hl => match us, hl with | [_, _, _], _ => rfl)
theorem x_order_count : DefAt K mg "order_count" s_order_count ["thing", "history"] := defAt_of X G (c.t.d.def_ 69 (d := dd_order_count) rfl) (c.t.d.fact 68 (f := He.Fa.glo "order_count") rfl) (fun _ _ _ _ _ _ us hl => match us, hl with | [_, _], _ => rfl)
theorem x_Judge_init : InitAt K mg "Judge" "Judge.__init__" s_Judge_init ["self", "thing"] := initAt_of X G (c.t.d.def_ 70 (d := dd_Judge_init) rfl) (c.t.d.fact 91 (f := He.Fa.glo "Judge") rfl) (c.t.d.fact 105 (f := He.Fa.mkr "Judge") rfl) (fun _ _ _ _ _ _ us hl => match us, hl with | [_, _], _ => rfl)
theorem x_Judge_keep : MethAt K mg "Judge" "keep" "Judge.keep" s_Judge_keep ["self", "guesses"] := methAt_of X G (c.t.d.def_ 71 (d := dd_Judge_keep) rfl) (c.t.d.fact 91 (f := He.Fa.glo "Judge") rfl) (c.t.d.fact 93 (f := He.Fa.cls "Judge") rfl) (c.t.d.fact 106 (f := He.Fa.meth "Judge" "keep") rfl) (fun _ _ _ _ _ _ us hl => match us, hl with | [_, _], _ => rfl)
theorem x_Judge_first : MethAt K mg "Judge" "first" "Judge.first" s_Judge_first ["self"] := methAt_of X G (c.t.d.def_ 72 (d := dd_Judge_first) rfl) (c.t.d.fact 91 (f := He.Fa.glo "Judge") rfl) (c.t.d.fact 93 (f := He.Fa.cls "Judge") rfl) (c.t.d.fact 107 (f := He.Fa.meth "Judge" "first") rfl) (fun _ _ _ _ _ _ us hl => match us, hl with | [_], _ => rfl)
theorem x_marked : DefAt K mg "_marked" s_marked ["guess", "thread", "mark"] := defAt_of X G (c.t.d.def_ 73 (d := dd_marked) rfl) (c.t.d.fact 69 (f := He.Fa.glo "_marked") rfl) (fun _ _ _ _ _ _ us hl => match us, hl with | [_, _, _], _ => rfl)
theorem x_has_heard : DefAt K mg "_has_heard" s_has_heard ["mark", "answer"] := defAt_of X G (c.t.d.def_ 74 (d := dd_has_heard) rfl) (c.t.d.fact 70 (f := He.Fa.glo "_has_heard") rfl) (fun _ _ _ _ _ _ us hl => match us, hl with | [_, _], _ => rfl)
theorem x_spread : DefAt K mg "_spread" s_spread ["thing", "guesses"] := defAt_of X G (c.t.d.def_ 75 (d := dd_spread) rfl) (c.t.d.fact 71 (f := He.Fa.glo "_spread") rfl) (fun _ _ _ _ _ _ us hl => match us, hl with | [_, _], _ => rfl)
theorem x_Judge_hear : MethAt K mg "Judge" "hear" "Judge.hear" s_Judge_hear ["self", "kept", "event"] := methAt_of X G (c.t.d.def_ 76 (d := dd_Judge_hear) rfl) (c.t.d.fact 91 (f := He.Fa.glo "Judge") rfl) (c.t.d.fact 93 (f := He.Fa.cls "Judge") rfl) (c.t.d.fact 108 (f := He.Fa.meth "Judge" "hear") rfl) (fun _ _ _ _ _ _ us hl => match us, hl with | [_, _, _], _ => rfl)
theorem x_first_wrong : DefAt K mg "first_wrong" s_first_wrong ["thing", "history"] := defAt_of X G (c.t.d.def_ 77 (d := dd_first_wrong) rfl) (c.t.d.fact 72 (f := He.Fa.glo "first_wrong") rfl) (fun _ _ _ _ _ _ us hl => match us, hl with | [_, _], _ => rfl)
theorem x_in_step : DefAt K mg "in_step" s_in_step ["thing", "history"] := defAt_of X G (c.t.d.def_ 78 (d := dd_in_step) rfl) (c.t.d.fact 73 (f := He.Fa.glo "in_step") rfl) (fun _ _ _ _ _ _ us hl => match us, hl with | [_, _], _ => rfl)
theorem x_Ltaken : DefAt K mg "_law_taken" s_Ltaken ["row", "many"] := defAt_of X G (c.t.d.def_ 79 (d := dd_Ltaken) rfl) (c.t.d.fact 74 (f := He.Fa.glo "_law_taken") rfl) (fun _ _ _ _ _ _ us hl => match us, hl with | [_, _], _ => rfl)
theorem x_Lpick : DefAt K mg "_law_pick" s_Lpick ["row", "things"] := defAt_of X G (c.t.d.def_ 80 (d := dd_Lpick) rfl) (c.t.d.fact 75 (f := He.Fa.glo "_law_pick") rfl) (fun _ _ _ _ _ _ us hl => match us, hl with | [_, _], _ => rfl)
theorem x_t_FORMS : Tab K w mg "_FORMS" tab_FORMS := tab_of X G (c.t.d.fact 109 (f := He.Fa.glo "_FORMS") rfl) (says_tab c.t 0 (t := (fun K => He.ga K "_FORMS", ["counter", "register", "stack", "queue", "set", "agree", "bank", "table"])) rfl) (by exact (He.ba (He.ba c.more).1).1) rfl (all_cons (He.glo_ok X G (c.t.d.fact 18 (f := He.Fa.glo "_has_size") rfl)) (all_cons (He.glo_ok X G (c.t.d.fact 18 (f := He.Fa.glo "_has_size") rfl)) (all_cons (He.glo_ok X G (c.t.d.fact 19 (f := He.Fa.glo "_has_room_and_size") rfl)) (all_cons (He.glo_ok X G (c.t.d.fact 19 (f := He.Fa.glo "_has_room_and_size") rfl)) (all_cons (He.glo_ok X G (c.t.d.fact 18 (f := He.Fa.glo "_has_size") rfl)) (all_cons (He.glo_ok X G (c.t.d.fact 18 (f := He.Fa.glo "_has_size") rfl)) (all_cons (He.glo_ok X G (c.t.d.fact 21 (f := He.Fa.glo "_has_amounts") rfl)) (all_cons (He.glo_ok X G (c.t.d.fact 24 (f := He.Fa.glo "_has_rows") rfl)) all_nil))))))))
theorem x_t_CALLS : Tab K w mg "_CALLS" tab_CALLS := tab_of X G (c.t.d.fact 110 (f := He.Fa.glo "_CALLS") rfl) (says_tab c.t 1 (t := (fun K => He.ga K "_CALLS", ["counter", "register", "stack", "queue", "set", "agree", "bank", "table"])) rfl) (by exact (He.ba (He.ba c.more).1).2) rfl (all_cons (He.glo_ok X G (c.t.d.fact 3 (f := He.Fa.glo "_counter_calls") rfl)) (all_cons (He.glo_ok X G (c.t.d.fact 4 (f := He.Fa.glo "_register_calls") rfl)) (all_cons (He.glo_ok X G (c.t.d.fact 5 (f := He.Fa.glo "_stack_calls") rfl)) (all_cons (He.glo_ok X G (c.t.d.fact 6 (f := He.Fa.glo "_queue_calls") rfl)) (all_cons (He.glo_ok X G (c.t.d.fact 7 (f := He.Fa.glo "_set_calls") rfl)) (all_cons (He.glo_ok X G (c.t.d.fact 8 (f := He.Fa.glo "_agree_calls") rfl)) (all_cons (He.glo_ok X G (c.t.d.fact 9 (f := He.Fa.glo "_bank_calls") rfl)) (all_cons (He.glo_ok X G (c.t.d.fact 10 (f := He.Fa.glo "_table_calls") rfl)) all_nil))))))))
theorem x_t_STEPS : Tab K w mg "_STEPS" tab_STEPS := tab_of X G (c.t.d.fact 111 (f := He.Fa.glo "_STEPS") rfl) (says_tab c.t 2 (t := (fun K => He.ga K "_STEPS", ["counter", "register", "stack", "queue", "set", "agree", "bank", "table"])) rfl) (by exact (He.ba c.more).2) rfl (all_cons (He.glo_ok X G (c.t.d.fact 42 (f := He.Fa.glo "_counter_step") rfl)) (all_cons (He.glo_ok X G (c.t.d.fact 43 (f := He.Fa.glo "_register_step") rfl)) (all_cons (He.glo_ok X G (c.t.d.fact 45 (f := He.Fa.glo "_stack_step") rfl)) (all_cons (He.glo_ok X G (c.t.d.fact 46 (f := He.Fa.glo "_queue_step") rfl)) (all_cons (He.glo_ok X G (c.t.d.fact 47 (f := He.Fa.glo "_set_step") rfl)) (all_cons (He.glo_ok X G (c.t.d.fact 48 (f := He.Fa.glo "_agree_step") rfl)) (all_cons (He.glo_ok X G (c.t.d.fact 49 (f := He.Fa.glo "_bank_step") rfl)) (all_cons (He.glo_ok X G (c.t.d.fact 50 (f := He.Fa.glo "_table_step") rfl)) all_nil))))))))
theorem txt : Txt K mg w where
  n_all := He.free_ok X G (c.t.d.fact 77 (f := He.Fa.free "all") rfl)
  n_any := He.free_ok X G (c.t.d.fact 78 (f := He.Fa.free "any") rfl)
  n_bool := He.free_ok X G (c.t.d.fact 79 (f := He.Fa.free "bool") rfl)
  n_enumerate := He.free_ok X G (c.t.d.fact 80 (f := He.Fa.free "enumerate") rfl)
  n_int := He.free_ok X G (c.t.d.fact 81 (f := He.Fa.free "int") rfl)
  n_isinstance := He.free_ok X G (c.t.d.fact 82 (f := He.Fa.free "isinstance") rfl)
  n_len := He.free_ok X G (c.t.d.fact 83 (f := He.Fa.free "len") rfl)
  n_list := He.free_ok X G (c.t.d.fact 84 (f := He.Fa.free "list") rfl)
  n_range := He.free_ok X G (c.t.d.fact 85 (f := He.Fa.free "range") rfl)
  n_sorted := He.free_ok X G (c.t.d.fact 86 (f := He.Fa.free "sorted") rfl)
  n_str := He.free_ok X G (c.t.d.fact 87 (f := He.Fa.free "str") rfl)
  n_sum := He.free_ok X G (c.t.d.fact 88 (f := He.Fa.free "sum") rfl)
  n_tuple := He.free_ok X G (c.t.d.fact 89 (f := He.Fa.free "tuple") rfl)
  n_zip := He.free_ok X G (c.t.d.fact 90 (f := He.Fa.free "zip") rfl)
  t_FORMS := x_t_FORMS X G c
  t_CALLS := x_t_CALLS X G c
  t_STEPS := x_t_STEPS X G c
  g_THREADS := He.int_ok X G (c.t.d.fact 112 (f := He.Fa.int "THREADS" 4) rfl)
  g_MOST_EVENTS := He.int_ok X G (c.t.d.fact 113 (f := He.Fa.int "MOST_EVENTS" 24) rfl)
  g_MOST_OBJECTS := He.int_ok X G (c.t.d.fact 114 (f := He.Fa.int "MOST_OBJECTS" 3) rfl)
  c_Judge := clsN_of X G (c.t.d.fact 91 (f := He.Fa.glo "Judge") rfl) (c.t.d.fact 93 (f := He.Fa.cls "Judge") rfl)
  c_Span := clsN_of X G (c.t.d.fact 92 (f := He.Fa.glo "Span") rfl) (c.t.d.fact 94 (f := He.Fa.cls "Span") rfl)
  a_Judge_known := noAt_of X G (c.t.d.fact 91 (f := He.Fa.glo "Judge") rfl) (c.t.d.fact 95 (f := He.Fa.noat "Judge" "known") rfl)
  a_Judge_numbers := noAt_of X G (c.t.d.fact 91 (f := He.Fa.glo "Judge") rfl) (c.t.d.fact 96 (f := He.Fa.noat "Judge" "numbers") rfl)
  a_Judge_thing := noAt_of X G (c.t.d.fact 91 (f := He.Fa.glo "Judge") rfl) (c.t.d.fact 97 (f := He.Fa.noat "Judge" "thing") rfl)
  a_Span_answer := noAt_of X G (c.t.d.fact 92 (f := He.Fa.glo "Span") rfl) (c.t.d.fact 98 (f := He.Fa.noat "Span" "answer") rfl)
  a_Span_begin := noAt_of X G (c.t.d.fact 92 (f := He.Fa.glo "Span") rfl) (c.t.d.fact 99 (f := He.Fa.noat "Span" "begin") rfl)
  a_Span_call := noAt_of X G (c.t.d.fact 92 (f := He.Fa.glo "Span") rfl) (c.t.d.fact 100 (f := He.Fa.noat "Span" "call") rfl)
  a_Span_end := noAt_of X G (c.t.d.fact 92 (f := He.Fa.glo "Span") rfl) (c.t.d.fact 101 (f := He.Fa.noat "Span" "end") rfl)
  a_Span_place := noAt_of X G (c.t.d.fact 92 (f := He.Fa.glo "Span") rfl) (c.t.d.fact 102 (f := He.Fa.noat "Span" "place") rfl)
  a_Span_thread := noAt_of X G (c.t.d.fact 92 (f := He.Fa.glo "Span") rfl) (c.t.d.fact 103 (f := He.Fa.noat "Span" "thread") rfl)
  d_is_integer := x_is_integer X G c
  d_is_within := x_is_within X G c
  d_same := x_same X G c
  d_counter_calls := x_counter_calls X G c
  d_register_calls := x_register_calls X G c
  d_stack_calls := x_stack_calls X G c
  d_queue_calls := x_queue_calls X G c
  d_set_calls := x_set_calls X G c
  d_agree_calls := x_agree_calls X G c
  d_bank_calls := x_bank_calls X G c
  d_table_calls := x_table_calls X G c
  d_call_rows := x_call_rows X G c
  d_has_call := x_has_call X G c
  d_is_thread := x_is_thread X G c
  d_is_answer := x_is_answer X G c
  d_can_come := x_can_come X G c
  d_wrong_place := x_wrong_place X G c
  d_has_wide_history := x_has_wide_history X G c
  d_has_size := x_has_size X G c
  d_has_room_and_size := x_has_room_and_size X G c
  d_are_within := x_are_within X G c
  d_has_amounts := x_has_amounts X G c
  d_is_pair := x_is_pair X G c
  d_is_row := x_is_row X G c
  d_has_rows := x_has_rows X G c
  d_has_form := x_has_form X G c
  d_check_object := x_check_object X G c
  d_check_things := x_check_things X G c
  d_is_wide_history := x_is_wide_history X G c
  d_check_wide_history := x_check_wide_history X G c
  d_check := x_check X G c
  d_narrowed := x_narrowed X G c
  d_all_parts := x_all_parts X G c
  d_parts := x_parts X G c
  d_widened_event := x_widened_event X G c
  d_widened := x_widened X G c
  i_Span := x_Span_init X G c
  d_spans_in := x_spans_in X G c
  d_is_ahead := x_is_ahead X G c
  d_ahead_of_each := x_ahead_of_each X G c
  d_ended := x_ended X G c
  d_start := x_start X G c
  d_starts := x_starts X G c
  d_counter_step := x_counter_step X G c
  d_register_step := x_register_step X G c
  d_put_at_end := x_put_at_end X G c
  d_stack_step := x_stack_step X G c
  d_queue_step := x_queue_step X G c
  d_set_step := x_set_step X G c
  d_agree_step := x_agree_step X G c
  d_bank_step := x_bank_step X G c
  d_table_step := x_table_step X G c
  d_step := x_step X G c
  d_states_behind := x_states_behind X G c
  d_can_stand := x_can_stand X G c
  d_is_order := x_is_order X G c
  d_numbers := x_numbers X G c
  d_weave := x_weave X G c
  d_woven := x_woven X G c
  d_following := x_following X G c
  d_find_order := x_find_order X G c
  d_explained_all := x_explained_all X G c
  d_is_own_before := x_is_own_before X G c
  d_own_before_each := x_own_before_each X G c
  d_in_step_all := x_in_step_all X G c
  d_check_history := x_check_history X G c
  d_checked_spans := x_checked_spans X G c
  d_explained := x_explained X G c
  d_count_orders := x_count_orders X G c
  d_order_count := x_order_count X G c
  i_Judge := x_Judge_init X G c
  m_Judge_keep := x_Judge_keep X G c
  m_Judge_first := x_Judge_first X G c
  d_marked := x_marked X G c
  d_has_heard := x_has_heard X G c
  d_spread := x_spread X G c
  m_Judge_hear := x_Judge_hear X G c
  d_first_wrong := x_first_wrong X G c
  d_in_step := x_in_step X G c
  d_Ltaken := x_Ltaken X G c
  d_Lpick := x_Lpick X G c
end
theorem law_at {l : PySem.W.OpenLaw} {w : World} {K : PySem.W.Frag} {h : Heap} {mg : Str → Option Value} {fa : Addr} (X : K.In h) (G : h.Ns mainGlobals mg) (hfa : mg ("law" : Str) = some (.ref fa)) (c : He.SaysX fas fns tsK tfK exK w h K) (pu : ∀ ns : List Int, ns.length ≤ 63 → (∀ z ∈ ns, Builtin.Int.intBits z ≤ 1048576) → lawP ns) :
    LawAtS l w K (L2.CX l.prog w) 15 63 "script" mg fa h := by
  have U := txt X G c
  obtain ⟨fd, FD⟩ := c.t.d.def_ 81 (d := dd_law) rfl
  have e := hfa.symm.trans (He.glo_ok X G (c.t.d.fact 76 (f := He.Fa.glo "law") rfl))
  cases e
  refine ⟨fd, [], spM w K mg 1 m_law, fun p hp => (nomatch hp), fun p hp => (nomatch hp), fun p hp => (nomatch hp), fun s v => FD.bindsA (ps := ["script"]) (fun _ _ _ _ _ _ us hl => match us, hl with | [_], _ => rfl) s [v] rfl, fun H a ns hl hb hH hS => ?_, fun base hB hG hT => fn_law U (fun_of FD)⟩
  obtain ⟨S', e⟩ := pu ns hl hb
  refine ⟨rfl, ⟨[], []⟩, [], [.d (.list (ns.map PyData.int))], _, S', sto_nil, .cons (show Rw K mg ⟨[], []⟩ H (.ref a) (.d (.list (ns.map PyData.int))) from rp_script hS) .nil, e, fun r' v H' E' s' q' => ?_⟩
  have q2 : Rp K r' H' v (.bool true) := q'
  cases q2
  rfl
theorem cx_no {P : Program} {w : World} {H : Hp} {s : Shared} {e : Value} {s' : Shared} (h : L2.CX P w [] H s (fun _ _ _ => False) e s') : False := by
  obtain ⟨_, _, _, _, _, _, _, _, _, _, _, _, z⟩ := h
  exact z
end K14
/-! part MB -/
set_option linter.all false
set_option maxRecDepth 100000
set_option maxHeartbeats 1000000
namespace DD
open PySem
/-! ### mirrors, run by rewriting -/
abbrev R (α : Type) := Option (Except Str α × Sto)
def rb {α β : Type} (r : R α) (k : α → Sto → R β) : R β := match r with
  | none => none
  | some (.error e, S') => some (.error e, S')
  | some (.ok a, S') => k a S'
theorem rb_ok {α β : Type} (a : α) (S : Sto) (k : α → Sto → R β) : rb (some (.ok a, S)) k = k a S := rfl
theorem rb_err {α β : Type} (e : Str) (S : Sto) (k : α → Sto → R β) : rb (some (.error e, S)) k = some (.error e, S) := rfl
def rl {α β : Type} (o : Option α) (k : α → R β) : R β := match o with
  | none => none
  | some a => k a
theorem rl_some {α β : Type} (a : α) (k : α → R β) : rl (some a) k = k a := rfl
def rs (r : Option (Fl × Ev × Sto)) (k : Ev → Sto → Option (Fl × Ev × Sto)) : Option (Fl × Ev × Sto) := match r with
  | none => none
  | some (.nx, ev, S) => k ev S
  | some p => some p
theorem rs_nx (ev : Ev) (S : Sto) (k : Ev → Sto → Option (Fl × Ev × Sto)) : rs (some (.nx, ev, S)) k = k ev S := rfl
theorem rs_rt (w : Vl) (ev : Ev) (S : Sto) (k : Ev → Sto → Option (Fl × Ev × Sto)) : rs (some (.rt w, ev, S)) k = some (.rt w, ev, S) := rfl
theorem rs_ex (w : Str) (ev : Ev) (S : Sto) (k : Ev → Sto → Option (Fl × Ev × Sto)) : rs (some (.ex w, ev, S)) k = some (.ex w, ev, S) := rfl
theorem bind_rb {α β : Type} (m : M α) (g : α → M β) (S : Sto) : (m >>= g) S = rb (m S) fun a S' => g a S' := by
  rw [M.bind_run]; unfold rb; rfl
theorem pure_r {α : Type} (a : α) (S : Sto) : (pure a : M α) S = some (.ok a, S) := rfl
theorem lift_r {α β : Type} (o : Option α) (k : α → Sto → R β) (S : Sto) : rb (M.lift o S) k = rl o fun a => k a S := by cases o <;> rfl
theorem rd_d {β : Type} (d : PyData) (S : Sto) (k : PyData → Sto → R β) : rb (rd (.d d) S) k = k d S := rfl
def listOf : MO → Option (List PyData)
  | .l xs => some xs
  | _ => none
theorem rd_m {β : Type} (n : Nat) (S : Sto) (k : PyData → Sto → R β) : rb (rd (.m n) S) k = rl (S[n]?) fun o => rl (listOf o) fun xs => k (.list xs) S := by
  unfold rd
  cases h : S[n]? with
  | none => simp [h, rb, rl]
  | some o => cases o <;> simp [h, rb, rl, listOf]
section
variable {f g h : Ev → M Vl} {t u : Ev → M Bool} {fs : Ev → M (List Vl)} {ev : Ev} {S : Sto} {a b : SM} {op p : PyData → PyData → Option PyData} {fn : List PyData → Option PyData}
theorem r_var (i : Nat) : fVar i ev S = rl (ev[i]?) fun o => rl o fun w => some (.ok w, S) := by
  unfold fVar rl
  cases h : ev[i]? with
  | none => rfl
  | some o => cases o <;> rfl
theorem r_c (d : PyData) : fC d ev S = some (.ok (.d d), S) := rfl
theorem r_op : fOp op f g ev S = rb (f ev S) fun x S1 => rb (g ev S1) fun y S2 => rb (rd x S2) fun a S3 => rb (rd y S3) fun b S4 => rl (op a b) fun z => some (.ok (.d z), S4) := by
  unfold fOp
  simp only [bind_rb, lift_r, pure_r]
theorem r_un {op : PyData → Option PyData} : fUn op f ev S = rb (f ev S) fun x S1 => rb (rd x S1) fun a S3 => rl (op a) fun z => some (.ok (.d z), S3) := by
  unfold fUn
  simp only [bind_rb, lift_r, pure_r]
def boolOf : Vl → Option Bool
  | .d (.bool b) => some b
  | _ => none
theorem r_fB : fB f ev S = rb (f ev S) fun x S1 => rl (boolOf x) fun b => some (.ok b, S1) := by
  unfold fB
  simp only [bind_rb]
  congr 1
  funext x S1
  unfold boolOf rl
  split <;> simp_all [pure_r] <;> first | rfl | (split <;> simp_all) | skip
  all_goals rfl
theorem r_not : fNot t ev S = rb (t ev S) fun b S1 => some (.ok (!b), S1) := by
  unfold fNot
  simp only [bind_rb, pure_r]
theorem r_and : fAnd t u ev S = rb (t ev S) fun b S1 => bif b then u ev S1 else some (.ok false, S1) := by
  unfold fAnd
  simp only [bind_rb]
  congr 1
  funext b S1
  cases b <;> rfl
theorem r_or : fOr t u ev S = rb (t ev S) fun b S1 => bif b then some (.ok true, S1) else u ev S1 := by
  unfold fOr
  simp only [bind_rb]
  congr 1
  funext b S1
  cases b <;> rfl
theorem r_ite : fIte t f g ev S = rb (t ev S) fun b S1 => bif b then f ev S1 else g ev S1 := by
  unfold fIte
  simp only [bind_rb]
  congr 1
  funext b S1
  cases b <;> rfl
theorem r_nil : fNil ev S = some (.ok [], S) := rfl
theorem r_cons : fCons f fs ev S = rb (f ev S) fun x S1 => rb (fs ev S1) fun xs S2 => some (.ok (x :: xs), S2) := by
  unfold fCons
  simp only [bind_rb, pure_r]
theorem r_tup : fTup fs ev S = rb (fs ev S) fun ws S1 => rl (dats ws) fun ds => if ds.length ≤ 1000 then some (.ok (.d (.tuple ds)), S1) else none := by
  unfold fTup
  simp only [bind_rb, lift_r]
  congr 1
  funext ws S1
  congr 1
  funext ds
  split <;> rfl
theorem r_lst : fLst fs ev S = rb (fs ev S) fun ws S1 => rl (dats ws) fun ds => if ds.length ≤ 1000 then some (.ok (.d (.list ds)), S1) else none := by
  unfold fLst
  simp only [bind_rb, lift_r]
  congr 1
  funext ws S1
  congr 1
  funext ds
  split <;> rfl
theorem r_call : fCall fn fs ev S = rb (fs ev S) fun ws S1 => rb (rdAll ws S1) fun ds S2 => rl (fn ds) fun z => some (.ok (.d z), S2) := by
  unfold fCall
  simp only [bind_rb, lift_r, pure_r]
theorem rdAll_nil {β : Type} (k : List PyData → Sto → R β) : rb (rdAll [] S) k = k [] S := rfl
theorem rb_rb {α β γ : Type} (r : R α) (k : α → Sto → R β) (k2 : β → Sto → R γ) : rb (rb r k) k2 = rb r fun a S => rb (k a S) k2 := by
  cases r with
  | none => rfl
  | some p =>
    obtain ⟨o, S⟩ := p
    cases o <;> rfl
theorem rdAll_cons {β : Type} (w : Vl) (ws : List Vl) (k : List PyData → Sto → R β) : rb (rdAll (w :: ws) S) k = rb (rd w S) fun d S1 => rb (rdAll ws S1) fun ds S2 => k (d :: ds) S2 := by
  show rb (((rd w) >>= fun d => (rdAll ws) >>= fun ds => pure (d :: ds)) S) k = _
  simp only [bind_rb, pure_r, rb_rb, rb_ok]
theorem r_def {n : Nat} {m : List Vl → M Vl} : fDef n m fs ev S = rb (fs ev S) fun ws S1 => if ws.length = n then m ws S1 else none := by
  unfold fDef
  simp only [bind_rb]
  congr 1
  funext ws S1
  split <;> rfl
/-! statements -/
theorem s_seq : sSeq a b ev S = rs (a ev S) fun ev1 S1 => b ev1 S1 := by
  unfold sSeq rs
  cases h : a ev S with
  | none => rfl
  | some p =>
    obtain ⟨fl, e, S'⟩ := p
    cases fl <;> rfl
def ro {α : Type} (r : R α) (ev : Ev) (k : α → Sto → Option (Fl × Ev × Sto)) : Option (Fl × Ev × Sto) := match r with
  | none => none
  | some (.error x, S') => some (.ex x, ev, S')
  | some (.ok a, S') => k a S'
theorem ro_ok {α : Type} (a : α) (S : Sto) (ev : Ev) (k : α → Sto → Option (Fl × Ev × Sto)) : ro (some (.ok a, S)) ev k = k a S := rfl
theorem ro_err {α : Type} (a : Str) (S : Sto) (ev : Ev) (k : α → Sto → Option (Fl × Ev × Sto)) : ro (some (.error a, S)) ev k = some (.ex a, ev, S) := rfl
theorem onE_r {α : Type} (m : M α) (k : α → Sto → Option (Fl × Ev × Sto)) : onE m ev k S = ro (m S) ev k := rfl
theorem s_if : sIf t a b ev S = ro (t ev S) ev fun c S1 => bif c then a ev S1 else b ev S1 := by
  show onE (t ev) ev _ S = _
  rw [onE_r]
  congr 1
  funext c S1
  cases c <;> rfl
theorem s_ret : sRet f ev S = ro (f ev S) ev fun w S1 => some (.rt w, ev, S1) := rfl
theorem s_expr : sExpr f ev S = ro (f ev S) ev fun _ S1 => some (.nx, ev, S1) := rfl
theorem s_set (i : Nat) : sSet i f ev S = ro (f ev S) ev fun w S1 => some (.nx, ev.set i (some w), S1) := rfl
theorem s_pass : sPass ev S = some (.nx, ev, S) := rfl
theorem s_raise (x : Str) : sRaise x ev S = some (.ex x, ev, S) := rfl
end

section
variable {f g h fo fi fe : Ev → M Vl} {t u : Ev → M Bool} {fs : Ev → M (List Vl)} {ev : Ev} {S : Sto} {a b : SM}
theorem mut_m {β : Type} (n : Nat) (k : Nat × List PyData → Sto → R β) : rb (mutAt (.m n) S) k = rl (S[n]?) fun o => rl (listOf o) fun xs => k (n, xs) S := by
  unfold mutAt
  cases h : S[n]? with
  | none => simp [h, rb, rl]
  | some o => cases o <;> simp [h, rb, rl, listOf]
theorem r_append : fAppend fo fe ev S = rb (fo ev S) fun x S1 => rb (mutAt x S1) fun _ S2 => rb (fe ev S2) fun y S3 => rl (datOf y) fun d => rb (mutAt x S3) fun q S4 => if q.2.length < 1000000 then some (.ok (.d .none), S4.set q.1 (.l (q.2 ++ [d]))) else none := by
  unfold fAppend
  simp only [bind_rb, lift_r]
  congr 1; funext x S1
  congr 1; funext _ S2
  congr 1; funext y S3
  congr 1; funext d
  congr 1; funext q S4
  split <;> rfl
theorem r_put : fPut fe fo fi ev S = rb (fe ev S) fun y S1 => rl (datOf y) fun d => rb (fo ev S1) fun x S2 => rb (fi ev S2) fun k S3 => rl (intOf k) fun k => rb (mutAt x S3) fun q S4 => rl (L2.ixN q.2.length k) fun j => some (.ok (.d .none), S4.set q.1 (.l (q.2.set j d))) := by
  unfold fPut
  simp only [bind_rb, lift_r]
  rfl
end

/-! operations, run -/
section
variable {xs : List PyData} {i j : Int} {α : Type} {a b c d : α} {x : PyData}
theorem p_ixl : ixP (.list xs) (.int i) = L2.atI xs i := rfl
theorem p_ixt : ixP (.tuple xs) (.int i) = L2.atI xs i := rfl
theorem p_gt : gtP (.int i) (.int j) = some (.bool (decide (j < i))) := rfl
theorem p_lt : ltP (.int i) (.int j) = some (.bool (decide (i < j))) := rfl
theorem p_le : leP (.int i) (.int j) = some (.bool (decide (i ≤ j))) := rfl
theorem p_ge : geP (.int i) (.int j) = some (.bool (decide (j ≤ i))) := rfl
theorem p_add : addP (.int i) (.int j) = some (.int (i + j)) := rfl
theorem p_sub : subP (.int i) (.int j) = some (.int (i - j)) := rfl
theorem p_mul (h : j.natAbs < 2 ^ 60) : mulP (.int i) (.int j) = some (.int (i * j)) := if_pos (.inr h)
theorem p_mod (h : 0 < j) : modP (.int i) (.int j) = some (.int (i % j)) := if_pos h
theorem p_fdiv (h : 0 < j) (h2 : j < 2 ^ 60) : fdivP (.int i) (.int j) = some (.int (i / j)) := if_pos ⟨h, h2⟩
theorem p_int : intP [.int i] = some (.int i) := rfl
theorem p_lenl : lenP [.list xs] = some (.int xs.length) := rfl
theorem p_lent : lenP [.tuple xs] = some (.int xs.length) := rfl
theorem bool_of (b : Bool) : boolOf (.d (.bool b)) = some b := rfl
theorem dat_of (x : PyData) : datOf (.d x) = some x := rfl
theorem int_of (i : Int) : intOf (.d (.int i)) = some i := rfl
theorem list_of : listOf (.l xs) = some xs := rfl
theorem at4_0 : L2.atI [a, b, c, d] 0 = some a := rfl
theorem at4_1 : L2.atI [a, b, c, d] 1 = some b := rfl
theorem at4_2 : L2.atI [a, b, c, d] 2 = some c := rfl
theorem at4_3 : L2.atI [a, b, c, d] 3 = some d := rfl
theorem ix4_0 : L2.ixN 4 0 = some 0 := rfl
theorem ix4_1 : L2.ixN 4 1 = some 1 := rfl
theorem ix4_2 : L2.ixN 4 2 = some 2 := rfl
theorem ix4_3 : L2.ixN 4 3 = some 3 := rfl
end
end DD
/-! part AM1 -/
set_option linter.all false
set_option maxRecDepth 100000
set_option maxHeartbeats 1000000
namespace K14
open DD PySem
/-- the row of draws -/
def rowL (ns : List Int) (p s q : Int) : MO := .l [.list (ns.map PyData.int), .int p, .int s, .int q]


/-- nothing of T is newer -/
abbrev OkT (T : Sto) : Prop := T.all (okMO (T.length + 1)) = true
theorem fin_row {T : Sto} (hT : OkT T) (r : List PyData) (x : PyData) : fin (T.length + 1) (.d x) (.l r :: T) = some (.ok (.d x), .l r :: T) := by
  unfold fin cutS
  have e : (MO.l r :: T).take (T.length + 1) = MO.l r :: T := by
    rw [show T.length + 1 = (MO.l r :: T).length from rfl, List.take_length]
  rw [e]
  have e2 : (MO.l r :: T).all (okMO (T.length + 1)) = true := by
    rw [List.all_cons, hT]; rfl
  rw [if_pos e2]
theorem fin_rowL {T : Sto} (hT : OkT T) (ns : List Int) (p s q : Int) (x : PyData) : fin (T.length + 1) (.d x) (rowL ns p s q :: T) = some (.ok (.d x), rowL ns p s q :: T) := fin_row hT _ x
theorem p_pow (i j : Int) (h : 0 ≤ j ∧ j ≤ 64 ∧ i.natAbs < 2 ^ 64) : powP (.int i) (.int j) = some (.int (i ^ j.toNat)) := if_pos h
theorem p_pow18 : powP (.int 10) (.int 18) = some (.int (10 ^ 18)) := p_pow 10 18 (by decide)
theorem atI_map {ns : List Int} {p : Int} (hp : 0 ≤ p) (h : p < ns.length) : ∃ c, ns[p.toNat]? = some c ∧ L2.atI (ns.map PyData.int) p = some (.int c) := by
  have hl : p.toNat < ns.length := by omega
  refine ⟨ns[p.toNat], List.getElem?_eq_getElem hl, ?_⟩
  unfold L2.atI L2.ixN
  rw [if_pos hp, List.length_map, if_pos h]
  simp [List.getElem?_eq_getElem hl]
theorem taken {T : Sto} (hT : OkT T) (ns : List Int) (p s q many : Int) (hp : 0 ≤ p) (hm : 0 < many) (hm2 : many < 2 ^ 60) : ∃ v p' s' q', m_Ltaken [.m 0, .d (.int many)] (rowL ns p s q :: T) = some (.ok (.d (.int v)), rowL ns p' s' q' :: T) ∧ 0 ≤ v ∧ v < many ∧ 0 ≤ p' := by
  by_cases hq : 0 < q
  · refine ⟨q % many, p, s, q / many, ?_, Int.emod_nonneg _ (by omega), Int.emod_lt_of_pos _ hm, hp⟩
    unfold m_Ltaken mDef b_Ltaken
    simp only [s_seq, s_if, s_set, s_expr, s_ret, s_pass, r_fB, r_op, r_var, r_c, r_call, r_cons, r_nil, r_put, rdAll_cons, rdAll_nil, startE, rb_ok, rl_some, ro_ok, rs_nx, rs_rt, List.map, List.replicate, List.getElem?_cons_zero, List.getElem?_cons_succ, List.cons_append, List.nil_append, rd_m, mut_m, rowL, list_of, rd_d, p_ixl, at4_0, at4_1, at4_2, at4_3, ix4_0, ix4_1, ix4_2, ix4_3, p_gt, p_ge, p_add, p_sub, p_lenl, p_mul (j := 48271) (by decide), p_mod hm, p_mod (j := 2147483647) (by decide), p_fdiv hm hm2, p_fdiv (j := 7) (by decide) (by decide), p_int, bool_of, dat_of, int_of, decide_true, decide_false, cond_true, cond_false, List.set, List.length_cons, List.length_nil, Nat.zero_add, Nat.reduceAdd, Nat.reduceSub, List.set_cons_zero, List.set_cons_succ, fin_row hT, List.length_map, p_pow18, hq]
  · by_cases hl : (ns.length : Int) < p + 1
    · refine ⟨(s * 48271 + 11) % 2147483647 / 7 % many, p + 1, (s * 48271 + 11) % 2147483647, q, ?_, Int.emod_nonneg _ (by omega), Int.emod_lt_of_pos _ hm, by omega⟩
      unfold m_Ltaken mDef b_Ltaken
      simp only [s_seq, s_if, s_set, s_expr, s_ret, s_pass, r_fB, r_op, r_var, r_c, r_call, r_cons, r_nil, r_put, rdAll_cons, rdAll_nil, startE, rb_ok, rl_some, ro_ok, rs_nx, rs_rt, List.map, List.replicate, List.getElem?_cons_zero, List.getElem?_cons_succ, List.cons_append, List.nil_append, rd_m, mut_m, rowL, list_of, rd_d, p_ixl, at4_0, at4_1, at4_2, at4_3, ix4_0, ix4_1, ix4_2, ix4_3, p_gt, p_ge, p_add, p_sub, p_lenl, p_mul (j := 48271) (by decide), p_mod hm, p_mod (j := 2147483647) (by decide), p_fdiv hm hm2, p_fdiv (j := 7) (by decide) (by decide), p_int, bool_of, dat_of, int_of, decide_true, decide_false, cond_true, cond_false, List.set, List.length_cons, List.length_nil, Nat.zero_add, Nat.reduceAdd, Nat.reduceSub, List.set_cons_zero, List.set_cons_succ, fin_row hT, List.length_map, p_pow18, hq, hl]
    · obtain ⟨c, hc, ha⟩ := atI_map (ns := ns) (p := p) hp (by omega)
      have ha' : L2.atI (ns.map PyData.int) (p + 1 - 1) = some (.int c) := by rw [Int.add_sub_cancel]; exact ha
      by_cases hb : 10 ^ 18 ≤ c
      · refine ⟨c % many, p + 1, (s * 48271 + c + 11) % 2147483647, c / many, ?_, Int.emod_nonneg _ (by omega), Int.emod_lt_of_pos _ hm, by omega⟩
        unfold m_Ltaken mDef b_Ltaken
        simp only [s_seq, s_if, s_set, s_expr, s_ret, s_pass, r_fB, r_op, r_var, r_c, r_call, r_cons, r_nil, r_put, rdAll_cons, rdAll_nil, startE, rb_ok, rl_some, ro_ok, rs_nx, rs_rt, List.map, List.replicate, List.getElem?_cons_zero, List.getElem?_cons_succ, List.cons_append, List.nil_append, rd_m, mut_m, rowL, list_of, rd_d, p_ixl, at4_0, at4_1, at4_2, at4_3, ix4_0, ix4_1, ix4_2, ix4_3, p_gt, p_ge, p_add, p_sub, p_lenl, p_mul (j := 48271) (by decide), p_mod hm, p_mod (j := 2147483647) (by decide), p_fdiv hm hm2, p_fdiv (j := 7) (by decide) (by decide), p_int, bool_of, dat_of, int_of, decide_true, decide_false, cond_true, cond_false, List.set, List.length_cons, List.length_nil, Nat.zero_add, Nat.reduceAdd, Nat.reduceSub, List.set_cons_zero, List.set_cons_succ, fin_row hT, List.length_map, p_pow18, hq, hl, ha', hb]
      · refine ⟨c % many, p + 1, (s * 48271 + c + 11) % 2147483647, q, ?_, Int.emod_nonneg _ (by omega), Int.emod_lt_of_pos _ hm, by omega⟩
        unfold m_Ltaken mDef b_Ltaken
        simp only [s_seq, s_if, s_set, s_expr, s_ret, s_pass, r_fB, r_op, r_var, r_c, r_call, r_cons, r_nil, r_put, rdAll_cons, rdAll_nil, startE, rb_ok, rl_some, ro_ok, rs_nx, rs_rt, List.map, List.replicate, List.getElem?_cons_zero, List.getElem?_cons_succ, List.cons_append, List.nil_append, rd_m, mut_m, rowL, list_of, rd_d, p_ixl, at4_0, at4_1, at4_2, at4_3, ix4_0, ix4_1, ix4_2, ix4_3, p_gt, p_ge, p_add, p_sub, p_lenl, p_mul (j := 48271) (by decide), p_mod hm, p_mod (j := 2147483647) (by decide), p_fdiv hm hm2, p_fdiv (j := 7) (by decide) (by decide), p_int, bool_of, dat_of, int_of, decide_true, decide_false, cond_true, cond_false, List.set, List.length_cons, List.length_nil, Nat.zero_add, Nat.reduceAdd, Nat.reduceSub, List.set_cons_zero, List.set_cons_succ, fin_row hT, List.length_map, p_pow18, hq, hl, ha', hb]
end K14
/-! part AM2 -/
set_option linter.all false
set_option maxRecDepth 100000
set_option maxHeartbeats 1000000
namespace K14
open DD PySem
theorem atI_int {α : Type} (xs : List α) (v : Int) (h0 : 0 ≤ v) (h : v < xs.length) : ∃ z, z ∈ xs ∧ L2.atI xs v = some z := by
  have hl : v.toNat < xs.length := by omega
  refine ⟨xs[v.toNat], List.getElem_mem hl, ?_⟩
  unfold L2.atI L2.ixN
  rw [if_pos h0, if_pos h]
  simp [List.getElem?_eq_getElem hl]
/-- _law_pick chooses one of the list -/
theorem pick {T : Sto} (hT : OkT T) (ns : List Int) (p s q : Int) (xs : List PyData) (hp : 0 ≤ p) (hx : xs ≠ []) (hl : xs.length < 2 ^ 60) : ∃ z p' s' q', m_Lpick [.m 0, .d (.list xs)] (rowL ns p s q :: T) = some (.ok (.d z), rowL ns p' s' q' :: T) ∧ z ∈ xs ∧ 0 ≤ p' := by
  have hpos : 0 < xs.length := List.length_pos_iff.mpr hx
  obtain ⟨v, p', s', q', h, h0, h1, h2⟩ := taken hT ns p s q xs.length hp (by omega) (by omega)
  obtain ⟨z, hz, ha⟩ := atI_int xs v h0 h1
  refine ⟨z, p', s', q', ?_, hz, h2⟩
  unfold m_Lpick mDef b_Lpick
  simp only [s_ret, r_op, r_var, r_def, r_call, r_cons, r_nil, rdAll_cons, rdAll_nil, startE, rb_ok, rl_some, ro_ok, List.map, List.replicate, List.getElem?_cons_zero, List.getElem?_cons_succ, List.cons_append, List.nil_append, rd_d, p_lenl, p_ixl, List.length_cons, List.length_nil, Nat.zero_add, Nat.reduceAdd, Nat.reduceSub, if_true, h, ha, fin_rowL hT]
end K14
/-! part AQ -/
set_option linter.all false
set_option maxRecDepth 100000
set_option maxHeartbeats 4000000
namespace K14
open DD PySem
def l0 : SM := (sSet 1 (fMut (fCons (fVar 0) (fCons (fC (.int 0)) (fCons (fC (.int 16014)) (fCons (fC (.int 0)) fNil))))))
def l1 : SM := (sSet 2 (fTup (fCons (fTup (fCons (fC (.str "queue")) (fCons (fC (.int 2)) (fCons (fC (.int 2)) fNil)))) (fCons (fTup (fCons (fC (.str "queue")) (fCons (fC (.int 2)) (fCons (fC (.int 2)) fNil)))) fNil))))
def l2 : SM := (sPar 7 8 (fCons (fDef 2 m_Ltaken (fCons (fVar 1) (fCons (fC (.int 2)) fNil))) (fCons (fDef 2 m_Ltaken (fCons (fVar 1) (fCons (fC (.int 2)) fNil))) fNil)))
def l3 : SM := (sSet 3 (fTup (fCons (fTup (fCons (fC (.str "call")) (fCons (fC (.int 0)) (fCons (fC (.int 0)) (fCons (fTup (fCons (fC (.str "enter")) (fCons (fVar 7) fNil))) fNil))))) (fCons (fTup (fCons (fC (.str "answer")) (fCons (fC (.int 0)) (fCons (fC (.int 0)) (fCons (fC (.bool true)) fNil))))) (fCons (fTup (fCons (fC (.str "call")) (fCons (fC (.int 1)) (fCons (fC (.int 1)) (fCons (fTup (fCons (fC (.str "enter")) (fCons (fVar 8) fNil))) fNil))))) (fCons (fTup (fCons (fC (.str "answer")) (fCons (fC (.int 1)) (fCons (fC (.int 1)) (fCons (fC (.bool true)) fNil))))) fNil))))))
def l4 : SM := (sSet 3 (fOp addP (fVar 3) (fTup (fCons (fTup (fCons (fC (.str "call")) (fCons (fC (.int 0)) (fCons (fC (.int 1)) (fCons (fTup (fCons (fC (.str "enter")) (fCons (fOp subP (fC (.int 1)) (fVar 8)) fNil))) fNil))))) (fCons (fTup (fCons (fC (.str "answer")) (fCons (fC (.int 0)) (fCons (fC (.int 1)) (fCons (fC (.bool true)) fNil))))) (fCons (fTup (fCons (fC (.str "call")) (fCons (fC (.int 1)) (fCons (fC (.int 0)) (fCons (fTup (fCons (fC (.str "enter")) (fCons (fOp subP (fC (.int 1)) (fVar 7)) fNil))) fNil))))) (fCons (fTup (fCons (fC (.str "answer")) (fCons (fC (.int 1)) (fCons (fC (.int 0)) (fCons (fC (.bool true)) fNil))))) fNil)))))))
def l5 : SM := (sPar 9 10 (fCons (fDef 2 m_Lpick (fCons (fVar 1) (fCons (fLst (fCons (fVar 7) (fCons (fOp subP (fC (.int 1)) (fVar 7)) fNil))) fNil))) (fCons (fDef 2 m_Lpick (fCons (fVar 1) (fCons (fLst (fCons (fVar 8) (fCons (fOp subP (fC (.int 1)) (fVar 8)) fNil))) fNil))) fNil)))
def l6 : SM := (sSet 3 (fOp addP (fVar 3) (fTup (fCons (fTup (fCons (fC (.str "call")) (fCons (fC (.int 0)) (fCons (fC (.int 0)) (fCons (fTup (fCons (fC (.str "leave")) fNil)) fNil))))) (fCons (fTup (fCons (fC (.str "answer")) (fCons (fC (.int 0)) (fCons (fC (.int 0)) (fCons (fVar 9) fNil))))) (fCons (fTup (fCons (fC (.str "call")) (fCons (fC (.int 1)) (fCons (fC (.int 1)) (fCons (fTup (fCons (fC (.str "leave")) fNil)) fNil))))) (fCons (fTup (fCons (fC (.str "answer")) (fCons (fC (.int 1)) (fCons (fC (.int 1)) (fCons (fVar 10) fNil))))) fNil)))))))
def l7 : SM := (sIf (fB (fOp isNotP (fDef 2 m_is_wide_history (fCons (fVar 2) (fCons (fVar 3) fNil))) (fC (.bool true)))) (sRet (fC (.bool false))) sPass)
def l8 : SM := (sSet 4 (fDef 2 m_parts (fCons (fVar 2) (fCons (fVar 3) fNil))))
def l9 : SM := (sSet 5 (fComp (fItems (fLst (fCons (fC (.int 0)) (fCons (fC (.int 1)) fNil)))) (gN 11) fYes (fOp isNotP (fDef 2 m_explained (fCons (fOp ixP (fVar 2) (fVar 11)) (fCons (fOp ixP (fVar 4) (fVar 11)) fNil))) (fC .none)) [11]))
def l10 : SM := (sSet 6 (fComp (fItems (fLst (fCons (fC (.int 0)) (fCons (fC (.int 1)) fNil)))) (gN 11) fYes (fOp isNotP (fDef 2 m_in_step (fCons (fOp ixP (fVar 2) (fVar 11)) (fCons (fOp ixP (fVar 4) (fVar 11)) fNil))) (fC .none)) [11]))
def l11 : SM := (sIf (fOr (fB (fOp neP (fVar 5) (fLst (fCons (fOp eqP (fVar 9) (fVar 7)) (fCons (fOp eqP (fVar 10) (fVar 8)) fNil))))) (fB (fOp neP (fVar 6) (fLst (fCons (fC (.bool true)) (fCons (fC (.bool true)) fNil)))))) (sRet (fC (.bool false))) sPass)
def l12 : SM := (sIf (fB (fOp neP (fOp isNotP (fDef 2 m_explained_all (fCons (fVar 2) (fCons (fVar 3) fNil))) (fC .none)) (fOp eqP (fVar 5) (fLst (fCons (fC (.bool true)) (fCons (fC (.bool true)) fNil)))))) (sRet (fC (.bool false))) sPass)
def l13 : SM := (sIf (fB (fOp neP (fDef 2 m_in_step_all (fCons (fVar 2) (fCons (fVar 3) fNil))) (fOrV (fOp eqP (fVar 9) (fVar 7)) (fOp eqP (fVar 10) (fVar 8))))) (sRet (fC (.bool false))) sPass)
def l14 : SM := (sIf (fB (fOp neP (fComp (fItems (fLst (fCons (fC (.int 0)) (fCons (fC (.int 1)) fNil)))) (gN 11) fYes (fDef 2 m_first_wrong (fCons (fOp ixP (fVar 2) (fVar 11)) (fCons (fOp ixP (fVar 4) (fVar 11)) fNil))) [11]) (fComp (fItems (fLst (fCons (fC (.int 0)) (fCons (fC (.int 1)) fNil)))) (gN 11) fYes (fIte (fB (fOp ixP (fVar 5) (fVar 11))) (fC .none) (fC (.int 5))) [11]))) (sRet (fC (.bool false))) sPass)
def l15 : SM := (sIf (fB (fOp eqP (fVar 5) (fLst (fCons (fC (.bool true)) (fCons (fC (.bool true)) fNil))))) (sRet (fAndV (fOp eqP (fDef 3 m_woven (fCons (fVar 2) (fCons (fVar 3) (fCons (fTup (fCons (fTup (fCons (fC (.int 0)) (fCons (fC (.int 1)) (fCons (fC (.int 2)) fNil)))) (fCons (fTup (fCons (fC (.int 0)) (fCons (fC (.int 1)) (fCons (fC (.int 2)) fNil)))) fNil))) fNil)))) (fTup (fCons (fC (.int 0)) (fCons (fC (.int 1)) (fCons (fC (.int 2)) (fCons (fC (.int 3)) (fCons (fC (.int 4)) (fCons (fC (.int 5)) fNil)))))))) (fOp eqP (fDef 2 m_order_count (fCons (fOp ixP (fVar 2) (fC (.int 0))) (fCons (fOp ixP (fVar 4) (fC (.int 0))) fNil))) (fC (.int 1))))) sPass)
def l16 : SM := (sRet (fC (.bool true)))
def bR : SM := sSeq l6 (sSeq l7 (sSeq l8 (sSeq l9 (sSeq l10 (sSeq l11 (sSeq l12 (sSeq l13 (sSeq l14 (sSeq l15 (l16))))))))))
theorem b_law_eq : b_law = sSeq l0 (sSeq l1 (sSeq l2 (sSeq l3 (sSeq l4 (sSeq l5 bR))))) := rfl
theorem s_par {i j : Nat} {fs : Ev → M (List Vl)} {ev : Ev} {S : Sto} : sPar i j fs ev S = ro (fs ev S) ev fun ws S => match ws with
  | [a, b] => some (.nx, (ev.set i (some a)).set j (some b), S)
  | _ => none := rfl
def isT (o : Option (Fl × Ev × Sto)) : Bool := match o with
  | some (.rt (.d (.bool true)), _, _) => true
  | _ => false
theorem isT_of {o : Option (Fl × Ev × Sto)} (h : isT o = true) : ∃ ev S, o = some (.rt (.d (.bool true)), ev, S) := by
  unfold isT at h
  split at h
  · exact ⟨_, _, rfl⟩
  · cases h
def th : PyData := .tuple [.tuple [.str "queue", .int 2, .int 2], .tuple [.str "queue", .int 2, .int 2]]
def ev1 (X : PyData) (a b : Int) : Ev := [some (.d X), some (.m 0), some (.d th), none, none, none, none, some (.d (.int a)), some (.d (.int b)), none, none, none]
def wdE (o : Option (Option Vl)) : PyData := match o with
  | some (some (Vl.d x)) => x
  | _ => PyData.none
def wd (a b : Int) : PyData := match (sSeq l3 l4 (ev1 PyData.none a b) [] : Option (Fl × Ev × Sto)) with
  | some (_, ev, _) => wdE ev[3]?
  | none => PyData.none
theorem s_assoc {a b k : SM} {ev : Ev} {S : Sto} : sSeq a (sSeq b k) ev S = rs (sSeq a b ev S) k := by
  unfold sSeq rs
  cases a ev S with
  | none => rfl
  | some p =>
    obtain ⟨fl, e, S'⟩ := p
    cases fl with
    | nx => dsimp only; cases b e S' with
      | none => rfl
      | some q => obtain ⟨fl, e2, S2⟩ := q; cases fl <;> rfl
    | _ => rfl
def ev3 (X : PyData) (a b : Int) : Ev := (ev1 X a b).set 3 (some (.d (wd a b)))
def ev4 (X : PyData) (a b : Int) (f s : PyData) : Ev := ((ev3 X a b).set 9 (some (.d f))).set 10 (some (.d s))
theorem w00 (X : PyData) (R : List PyData) : sSeq l3 l4 (ev1 X 0 0) [.l R] = some (.nx, ev3 X 0 0, [.l R]) := by kernel_rfl
theorem w01 (X : PyData) (R : List PyData) : sSeq l3 l4 (ev1 X 0 1) [.l R] = some (.nx, ev3 X 0 1, [.l R]) := by kernel_rfl
theorem w10 (X : PyData) (R : List PyData) : sSeq l3 l4 (ev1 X 1 0) [.l R] = some (.nx, ev3 X 1 0, [.l R]) := by kernel_rfl
theorem w11 (X : PyData) (R : List PyData) : sSeq l3 l4 (ev1 X 1 1) [.l R] = some (.nx, ev3 X 1 1, [.l R]) := by kernel_rfl
theorem t0000 (X : PyData) (R : List PyData) : isT (bR (ev4 X 0 0 (.int 0) (.int 0)) [.l R]) = true := by kernel_rfl
theorem t0001 (X : PyData) (R : List PyData) : isT (bR (ev4 X 0 0 (.int 0) (.int 1)) [.l R]) = true := by kernel_rfl
theorem t0010 (X : PyData) (R : List PyData) : isT (bR (ev4 X 0 0 (.int 1) (.int 0)) [.l R]) = true := by kernel_rfl
theorem t0011 (X : PyData) (R : List PyData) : isT (bR (ev4 X 0 0 (.int 1) (.int 1)) [.l R]) = true := by kernel_rfl
theorem t0100 (X : PyData) (R : List PyData) : isT (bR (ev4 X 0 1 (.int 0) (.int 0)) [.l R]) = true := by kernel_rfl
theorem t0101 (X : PyData) (R : List PyData) : isT (bR (ev4 X 0 1 (.int 0) (.int 1)) [.l R]) = true := by kernel_rfl
theorem t0110 (X : PyData) (R : List PyData) : isT (bR (ev4 X 0 1 (.int 1) (.int 0)) [.l R]) = true := by kernel_rfl
theorem t0111 (X : PyData) (R : List PyData) : isT (bR (ev4 X 0 1 (.int 1) (.int 1)) [.l R]) = true := by kernel_rfl
theorem t1000 (X : PyData) (R : List PyData) : isT (bR (ev4 X 1 0 (.int 0) (.int 0)) [.l R]) = true := by kernel_rfl
theorem t1001 (X : PyData) (R : List PyData) : isT (bR (ev4 X 1 0 (.int 0) (.int 1)) [.l R]) = true := by kernel_rfl
theorem t1010 (X : PyData) (R : List PyData) : isT (bR (ev4 X 1 0 (.int 1) (.int 0)) [.l R]) = true := by kernel_rfl
theorem t1011 (X : PyData) (R : List PyData) : isT (bR (ev4 X 1 0 (.int 1) (.int 1)) [.l R]) = true := by kernel_rfl
theorem t1100 (X : PyData) (R : List PyData) : isT (bR (ev4 X 1 1 (.int 0) (.int 0)) [.l R]) = true := by kernel_rfl
theorem t1101 (X : PyData) (R : List PyData) : isT (bR (ev4 X 1 1 (.int 0) (.int 1)) [.l R]) = true := by kernel_rfl
theorem t1110 (X : PyData) (R : List PyData) : isT (bR (ev4 X 1 1 (.int 1) (.int 0)) [.l R]) = true := by kernel_rfl
theorem t1111 (X : PyData) (R : List PyData) : isT (bR (ev4 X 1 1 (.int 1) (.int 1)) [.l R]) = true := by kernel_rfl
end K14
/-! part AP -/
set_option linter.all false
set_option maxRecDepth 100000
set_option maxHeartbeats 4000000
namespace K14
open DD PySem
def evA (X : PyData) : Ev := [some (.d X), some (.m 0), none, none, none, none, none, none, none, none, none, none]
def evB (X : PyData) : Ev := [some (.d X), some (.m 0), some (.d th), none, none, none, none, none, none, none, none, none]
theorem e0 (ns : List Int) : l0 (startE 12 [.d (.list (ns.map PyData.int))]) [] = some (.nx, evA (.list (ns.map PyData.int)), [rowL ns 0 16014 0]) := by kernel_rfl
theorem e1 (X : PyData) (S : Sto) : l1 (evA X) S = some (.nx, evB X, S) := by kernel_rfl
theorem two {v : Int} (h0 : 0 ≤ v) (h1 : v < 2) : v = 0 ∨ v = 1 := by omega
theorem e2 (ns : List Int) (p s q : Int) (hp : 0 ≤ p) : ∃ a b p' s' q', (a = 0 ∨ a = 1) ∧ (b = 0 ∨ b = 1) ∧ 0 ≤ p' ∧ l2 (evB (.list (ns.map PyData.int))) [rowL ns p s q] = some (.nx, ev1 (.list (ns.map PyData.int)) a b, [rowL ns p' s' q']) := by
  obtain ⟨a, p1, s1, q1, t1, a0, a1, hp1⟩ := taken (T := []) rfl ns p s q 2 hp (by decide) (by decide)
  obtain ⟨b, p2, s2, q2, t2, b0, b1, hp2⟩ := taken (T := []) rfl ns p1 s1 q1 2 hp1 (by decide) (by decide)
  refine ⟨a, b, p2, s2, q2, two a0 a1, two b0 b1, hp2, ?_⟩
  unfold l2 evB
  simp only [s_par, r_cons, r_nil, r_def, r_var, r_c, rb_ok, rl_some, ro_ok, List.getElem?_cons_zero, List.getElem?_cons_succ, List.length_cons, List.length_nil, Nat.zero_add, Nat.reduceAdd, if_true, t1, t2, List.set_cons_zero, List.set_cons_succ, ev1]
theorem lst2 {β : Type} (x y : PyData) (S : Sto) (k : Vl → Sto → R β) : rb (rl (dats [.d x, .d y]) fun ds => if ds.length ≤ 1000 then some (.ok (.d (.list ds)), S) else none) k = k (.d (.list [x, y])) S := rfl
theorem e5 (ns : List Int) (p s q : Int) (hp : 0 ≤ p) (a b : Int) : ∃ f g p' s' q', (f = PyData.int a ∨ f = .int (1 - a)) ∧ (g = PyData.int b ∨ g = .int (1 - b)) ∧ l5 (ev3 (.list (ns.map PyData.int)) a b) [rowL ns p s q] = some (.nx, ev4 (.list (ns.map PyData.int)) a b f g, [rowL ns p' s' q']) := by
  obtain ⟨f, p1, s1, q1, t1, hf, hp1⟩ := pick (T := []) rfl ns p s q [.int a, .int (1 - a)] hp (by simp) (by simp)
  obtain ⟨g, p2, s2, q2, t2, hg, hp2⟩ := pick (T := []) rfl ns p1 s1 q1 [.int b, .int (1 - b)] hp1 (by simp) (by simp)
  refine ⟨f, g, p2, s2, q2, by simpa using hf, by simpa using hg, ?_⟩
  unfold l5 ev4 ev3 ev1
  simp only [s_par, r_cons, r_nil, r_def, r_var, r_c, r_lst, r_op, rb_ok, rl_some, rb_rb, ro_ok, rd_d, p_sub, List.set_cons_zero, List.set_cons_succ, List.getElem?_cons_zero, List.getElem?_cons_succ, List.length_cons, List.length_nil, Nat.zero_add, Nat.reduceAdd, if_true, lst2, t1, t2]
theorem tail (X : PyData) (R : List PyData) {a b : Int} (ha : a = 0 ∨ a = 1) (hb : b = 0 ∨ b = 1) {f g : PyData} (hf : f = PyData.int a ∨ f = .int (1 - a)) (hg : g = PyData.int b ∨ g = .int (1 - b)) : isT (bR (ev4 X a b f g) [.l R]) = true := by
  rcases ha with rfl | rfl <;> rcases hb with rfl | rfl <;> rcases hf with rfl | rfl <;> rcases hg with rfl | rfl
  · exact t0000 X R
  · exact t0001 X R
  · exact t0010 X R
  · exact t0011 X R
  · exact t0101 X R
  · exact t0100 X R
  · exact t0111 X R
  · exact t0110 X R
  · exact t1010 X R
  · exact t1011 X R
  · exact t1000 X R
  · exact t1001 X R
  · exact t1111 X R
  · exact t1110 X R
  · exact t1101 X R
  · exact t1100 X R
theorem w_all (X : PyData) (R : List PyData) {a b : Int} (ha : a = 0 ∨ a = 1) (hb : b = 0 ∨ b = 1) : sSeq l3 l4 (ev1 X a b) [.l R] = some (.nx, ev3 X a b, [.l R]) := by
  rcases ha with rfl | rfl <;> rcases hb with rfl | rfl
  · exact w00 X R
  · exact w01 X R
  · exact w10 X R
  · exact w11 X R
theorem fin_law {N : Nat} {f : SM} {ws : List Vl} {ev : Ev} {S' : Sto} (h : f (startE N ws) [] = some (.rt (.d (.bool true)), ev, S')) : mDef N f ws [] = some (.ok (.d (.bool true)), []) := by
  unfold mDef
  rw [h]
  rfl
theorem pure_law (ns : List Int) (_ : ns.length ≤ 63) (_ : ∀ z ∈ ns, Builtin.Int.intBits z ≤ 1048576) : lawP ns := by
  obtain ⟨a, b, p, s, q, ha, hb, hp, h2⟩ := e2 ns 0 16014 0 (Int.le_refl 0)
  obtain ⟨f, g, p', s', q', hf, hg, h5⟩ := e5 ns p s q hp a b
  obtain ⟨ev, S, h6⟩ := isT_of (tail (.list (ns.map PyData.int)) [.list (ns.map PyData.int), .int p', .int s', .int q'] ha hb hf hg)
  refine ⟨[], fin_law (N := 12) (ev := ev) (S' := S) ?_⟩
  rw [b_law_eq, s_seq, e0, rs_nx, s_seq, e1, rs_nx, s_seq, h2, rs_nx, s_assoc]
  have hw := w_all (.list (ns.map PyData.int)) [.list (ns.map PyData.int), .int p, .int s, .int q] ha hb
  show rs (sSeq l3 l4 (ev1 (.list (ns.map PyData.int)) a b) [.l [.list (ns.map PyData.int), .int p, .int s, .int q]]) (sSeq l5 bR) = _
  rw [hw, rs_nx, s_seq]
  have h5' : l5 (ev3 (.list (ns.map PyData.int)) a b) [.l [.list (ns.map PyData.int), .int p, .int s, .int q]] = _ := h5
  rw [h5', rs_nx]
  exact h6
end K14
/-! part A4 -/
set_option Elab.async false
set_option linter.all false
open PySem PySem.W PySem.Calls PyProof.Rows
set_option maxRecDepth 100000 in
set_option maxHeartbeats 0 in
theorem PySem.Challenge.cw_helpedcalls_k14_across_in_step_holds : PySem.Challenge.rw_helpedcalls_k14_across_in_step.Holds := by
  w_on; o_law
  refine HandSHeadRun.head_any (r := OpenLaw.row PySem.Challenge.rw_helpedcalls_k14_across_in_step) (q := view (OpenLaw.row PySem.Challenge.rw_helpedcalls_k14_across_in_step).prog [101]) (H := K14.hk) (ob := K14.ob) (M := 20000) (loose := K14.loose) (d := HandSHeadRun.topDef (OpenLaw.row PySem.Challenge.rw_helpedcalls_k14_across_in_step).prog 101) (kwd := []) K14.ob_eq
    (by kernel_rfl) (fun s => by kernel_rfl) K14.headrun (by kernel_rfl) (by kernel_rfl) (by kernel_rfl) (by rfl) (by first | assumption | decide +kernel) (by decide +kernel) ⟨rfl, rfl, rfl, rfl, rfl, by decide +kernel⟩ ?hw ?hc
  case hw => w_witness2
  case hc =>
    refine LamX.walk_ofTsE (l := PySem.Challenge.rw_helpedcalls_k14_across_in_step) (n := 63) (k := 15) (x := "script") (CX := fun w => L2.CX (PySem.Challenge.rw_helpedcalls_k14_across_in_step).prog w) rfl (by decide) (by kernel_rfl) ⟨rfl, by decide, by decide⟩ ?F (fun _ _ _ _ _ z => K14.cx_no z)
    intro w mg fa h Y G hmg0
    obtain ⟨K, KX, c⟩ := Y
    have hmg : mg ("law" : PySem.Str) = some (.ref fa) := by
      have e : (HandSHeadRun.topDef (OpenLaw.row PySem.Challenge.rw_helpedcalls_k14_across_in_step).prog 101).name = ("law" : PySem.Str) := by kernel_rfl
      rw [← e]
      exact hmg0
    exact ⟨K, KX, K14.law_at KX G hmg c K14.pure_law⟩
