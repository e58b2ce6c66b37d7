/-
  A send and a select in the body of a function, for the walk of code: a region whose operation is a communication, alone in its program. Nothing here speaks of a program text.
-/
import Derived.Conc.LoneSelect
import Derived.Orders
namespace Go.Proofs.Ytmndolojfdekdaa
open Go.RowKit Go.Conc

/-- What is left of a region comes to its end. -/
def Rg (P : Program) (ops : Array Oper) (Q : Exit → Act → World → Prop) (l : List Nat) (a : Act) (w : World) : Prop :=
  ∀ (b : Frame) (k : List Item) (cs : List Frame), ∃ e a' w', Q e a' w' ∧ Arrives P (lone (b.at a (.inRegion ops l :: k)) cs w) b k cs e a' w'
section
variable {P : Program} {ops : Array Oper} {Q : Exit → Act → World → Prop} {l rest : List Nat} {a : Act} {w w' : World} {i : Nat} {o : Oper}
theorem Rg.nil (h : Q .normal a w) : Rg P ops Q [] a w := fun _ _ _ => ⟨.normal, a, w, h, .one step_region_end⟩
theorem Rg.of_ops (h : wpOps P ops Q l a w) : Rg P ops Q l a w := fun b k cs => wp_ops l a w h b k cs
/-- An operation that yields a value. -/
theorem Rg.value {v : Value} (ho : ops[i]? = some o) (hg : o.guard = none) (hr : (execOp a.eval o).run P w = .ok (.value v) w') (h : Rg P ops Q rest (a.put o.dst v) w') : Rg P ops Q (i :: rest) a w := by
  have hw : Region.wanted o (yielded ops a.tmps) = true := by simp [Region.wanted, hg]
  intro b k cs
  obtain ⟨e, a', w'', hq, harr⟩ := h b k cs
  have hs := stepG_op (P := P) (b := b) (k := k) (cs := cs) (w := w) (rest := rest) ho hw
  have hfin : (b.at a (.inRegion ops (i :: rest) :: k)).finish v = b.at (a.put o.dst v) (.inRegion ops rest :: k) := by rw [Frame.finish_at, ho]; rfl
  refine ⟨e, a', w'', hq, .of_steps (.one (step_lone_go ?_)) harr⟩
  rw [hs, ← hfin]; simp [stepG.apply, hr]
theorem stepG_comm_any {cases : Array CommCase} {blocking : Bool} {shape : CommShape} (ho : ops[i]? = some o) (hg : o.guard = none) (hr : (execOp a.eval o).run P w = .ok (.comm cases blocking shape) w') (b : Frame) (k : List Item) (cs : List Frame) :
    ∃ es, stepG P true (G (b.at a (.inRegion ops (i :: rest) :: k)) cs) w = .comm (G (b.at a (.inRegion ops (i :: rest) :: k)) cs) cases blocking shape w' es := by
  have hw : Region.wanted o (yielded ops a.tmps) = true := by simp [Region.wanted, hg]
  have hs := stepG_op (P := P) (b := b) (k := k) (cs := cs) (w := w) (rest := rest) ho hw
  unfold G
  rw [hs]
  simp only [stepG.apply, Sem.runT_eq, hr, if_true]
  exact ⟨_, rfl⟩
theorem fin_at (b : Frame) (k : List Item) (v : Value) (ho : ops[i]? = some o) : (b.at a (.inRegion ops (i :: rest) :: k)).finish v = b.at (a.put o.dst v) (.inRegion ops rest :: k) := by rw [Frame.finish_at, ho]; rfl
/-- A send into a buffer with room. -/
theorem Rg.send {c cap s r : Nat} {buf : Array Value} {v z : Value} {tm : Bool} (ho : ops[i]? = some o) (hg : o.guard = none) (hr : (execOp a.eval o).run P w = .ok (.comm #[scase c v z] true .send) w')
    (hc : w'.heap[c]? = some (.chan cap buf false s r tm)) (hroom : buf.size < cap) (h : Rg P ops Q rest (a.put o.dst undef) (w'.setChan c cap (buf.push v) false (s + 1) r tm)) : Rg P ops Q (i :: rest) a w := by
  intro b k cs
  obtain ⟨e, a', w'', hq, harr⟩ := h b k cs
  obtain ⟨es, hs⟩ := stepG_comm_any (rest := rest) ho hg hr b k cs
  have h1 := step_lone_send_room hs hc hroom
  rw [fin_at b k undef ho] at h1
  exact ⟨e, a', w'', hq, .of_steps (.one h1) harr⟩
/-- A select of one receive with a default: the buffer holds something. -/
theorem Rg.take {c cap s r : Nat} {buf : Array Value} {z : Value} {tm closed : Bool} (ho : ops[i]? = some o) (hg : o.guard = none) (hr : (execOp a.eval o).run P w = .ok (.comm #[rcase c z] false .select) w')
    (hc : w'.heap[c]? = some (.chan cap buf closed s r tm)) (hsome : 0 < buf.size) (h : Rg P ops Q rest (a.put o.dst (.tuple #[goInt 0, .bool true, buf.getD 0 undef])) (w'.setChan c cap (buf.extract 1 buf.size) closed s (r + 1) tm)) : Rg P ops Q (i :: rest) a w := by
  intro b k cs
  obtain ⟨e, a', w'', hq, harr⟩ := h b k cs
  obtain ⟨es, hs⟩ := stepG_comm_any (rest := rest) ho hg hr b k cs
  have h1 := step_lone_select_recv_buf hs hc hsome
  rw [fin_at b k _ ho] at h1
  exact ⟨e, a', w'', hq, .of_steps (.one h1) harr⟩
/-- .. it is empty: the default. -/
theorem Rg.dflt {c cap s r : Nat} {z : Value} {tm : Bool} (ho : ops[i]? = some o) (hg : o.guard = none) (hr : (execOp a.eval o).run P w = .ok (.comm #[rcase c z] false .select) w')
    (hc : w'.heap[c]? = some (.chan cap #[] false s r tm)) (h : Rg P ops Q rest (a.put o.dst (.tuple #[goInt (-1), .bool false, z])) w') : Rg P ops Q (i :: rest) a w := by
  intro b k cs
  obtain ⟨e, a', w'', hq, harr⟩ := h b k cs
  obtain ⟨es, hs⟩ := stepG_comm_any (rest := rest) ho hg hr b k cs
  have h1 := step_lone_select_default hs hc
  rw [fin_at b k _ ho] at h1
  exact ⟨e, a', w'', hq, .of_steps (.one h1) harr⟩
theorem wp_region_rg {id : Nat} (h : Rg P ops Q (List.range ops.size) a w) : (Code.region id ops false).wp P Q a w :=
  fun b k cs => let ⟨e, a', w', q, r⟩ := h b k cs; ⟨e, a', w', q, .of_steps (.one step_region) r⟩
/-- All orders in which a region's operations may stand. -/
def orders (md : Region.Mode) (ops : Array Oper) : Nat → Array Bool → List (List Nat)
  | 0, _ => [[]]
  | n + 1, listed => match Region.ready md ops listed with
    | [] => [[]]
    | x :: xs => (x :: xs).flatMap fun i => (orders md ops n (listed.setIfInBounds i true)).map (i :: ·)
theorem orders_mem (md : Region.Mode) (ops : Array Oper) : ∀ (n t : Nat) (listed : Array Bool), Region.linearise.go md ops n t listed [] ∈ orders md ops n listed := by
  intro n
  induction n with
  | zero => intro t listed; simp [Region.linearise.go, orders]
  | succ n ih =>
    intro t listed
    simp only [Region.linearise.go]
    change (match (Region.ready md ops listed)[t % (Region.ready md ops listed).length]? with
      | some i => Region.linearise.go md ops n (t / (Region.ready md ops listed).length) (listed.setIfInBounds i true) [i]
      | Option.none => [].reverse) ∈ orders md ops (n + 1) listed
    unfold orders
    cases hr : Region.ready md ops listed with
    | nil => simp
    | cons x xs =>
      have hlt : t % (x :: xs).length < (x :: xs).length := Nat.mod_lt _ (by simp)
      rw [List.getElem?_eq_getElem hlt]
      dsimp only
      rw [linearise_go_acc, List.reverse_singleton, List.singleton_append]
      exact List.mem_flatMap.2 ⟨_, List.getElem_mem hlt, List.mem_map.2 ⟨_, ih _ _, rfl⟩⟩
theorem wp_region_orders {id : Nat} (hm : P.follows .mixedOrders = true) (h : ∀ l ∈ orders .any ops ops.size (Array.replicate ops.size false), Rg P ops Q l a w.drew) : (Code.region id ops true).wp P Q a w := by
  intro b k cs
  have hl : Region.schedule (P.follows .mixedOrders) ops (w.tape w.drawn (.order b.fn id)) ∈ orders .any ops ops.size (Array.replicate ops.size false) := by
    simp only [Region.schedule, hm, Bool.true_or, if_true]
    exact orders_mem _ _ _ _ _
  obtain ⟨e, a', w', q, r⟩ := h _ hl b k cs
  exact ⟨e, a', w', q, .of_steps (.one step_region_draw) r⟩
theorem wp_region_list {id : Nat} (L : List (List Nat)) (hm : P.follows .mixedOrders = true) (hL : orders .any ops ops.size (Array.replicate ops.size false) = L) (h : ∀ l ∈ L, Rg P ops Q l a w.drew) : (Code.region id ops true).wp P Q a w :=
  wp_region_orders hm fun l hl => h l (hL ▸ hl)
/-- An operation that yields a value, as the walk asks for it. -/
theorem Rg.value_k (ho : ops[i]? = some o) (hg : o.guard = none) (h : ∀ K : Act → World → Prop, (∀ a w, Rg P ops Q rest a w → K a w) → match (execOp a.eval o).run P w with
    | .ok (.value v) w' => K (a.put o.dst v) w'
    | _ => False) : Rg P ops Q (i :: rest) a w := by
  have h1 := h (Rg P ops Q rest) fun _ _ h => h
  rcases hr : (execOp a.eval o).run P w with ⟨n, w'⟩ | ⟨x, w'⟩
  · rw [hr] at h1
    cases n with
    | value v => exact Rg.value ho hg hr h1
    | _ => exact h1.elim
  · rw [hr] at h1; exact h1.elim
end
end Go.Proofs.Ytmndolojfdekdaa
