/- A map from pairs of numbers to rules, made by a literal, its entries in whatever order; what a look-up in it gives. -/
import Derived.Test.YtmjghakodgihiaaBudgetMath
import Derived.Test.YtmjghakodgihiaaNums
import Derived.Test.YtmjghakodgihiaaPlanCode4
import Derived.MapKept
import Derived.Carry
namespace Go.Proofs.Ytmjghakodgihiaa
open Go.ChangeShapes Go.WideShapes Go.ChangeAt Go.RowKit Go.MapKept
set_option linter.unusedVariables false
set_option linter.unusedSimpArgs false
set_option maxRecDepth 100000

/-- A kind of passes as a map's key. -/
def keyV (x : Int × Int) : Value := .agg #[.int .i64 x.1, .int .i64 x.2]
theorem und_kind : Try.prog.underlying 52 = Try.prog.underlying 51 := by kernel_rfl
theorem und_map : ∃ k e, Try.prog.underlying 49 = some (.map k e) ∧ k = 52 ∧ e = 47 := ⟨_, _, by kernel_rfl, rfl, rfl⟩

theorem key_check (e : Bool) (x : Int × Int) (w : World) : (Instr.checkKey e 10000 52 (keyV x)).run Try.prog w = .ok () w := by kernel_rfl
theorem fields_kind : (Try.prog.fieldsOf 52).toList.map (fun f => (f.name, f.type, f.offset)) = [("kernel", 3, 0), ("scale", 3, 1)] := by kernel_rfl
theorem key_equal (x y : Int × Int) (w : World) : (Op.equal 52 (keyV x) (keyV y)).run Try.prog w = .ok (x == y) w := by
  obtain ⟨a, b⟩ := x
  obtain ⟨c, d⟩ := y
  rw [show ((a, b) == (c, d)) = ((a == c) && (b == d)) from rfl]
  refine (run_equalIn_struct w 9999 52 #[.int .i64 a, .int .i64 b] #[.int .i64 c, .int .i64 d] (by kernel_rfl) (by kernel_rfl)).trans ?_
  have h := fields_kind
  generalize (Try.prog.fieldsOf 52).toList = L at h ⊢
  obtain ⟨f, g, rfl⟩ : ∃ f g, L = [f, g] := by
    rcases L with _ | ⟨f, _ | ⟨g, _ | ⟨h3, L⟩⟩⟩
    · simp at h
    · simp at h
    · exact ⟨f, g, rfl⟩
    · simp only [List.map_cons, List.cons.injEq, reduceCtorEq, and_false] at h
  simp only [List.map_cons, List.map_nil, List.cons.injEq, Prod.mk.injEq, and_true] at h
  obtain ⟨⟨n1, t1, o1⟩, n2, t2, o2⟩ := h
  have p1 : ∀ (u v : Value) (w : World), (part 3 #[u, v] 0).run Try.prog w = .ok u w := fun _ _ _ => by kernel_rfl
  have p2 : ∀ (u v : Value) (w : World), (part 3 #[u, v] 1).run Try.prog w = .ok v w := fun _ _ _ => by kernel_rfl
  have q : ∀ a b : Int, (Op.equalIn 9999 3 (.int .i64 a) (.int .i64 b)).run Try.prog w = .ok (a == b) w := fun a b => run_equalIn_int w 9998 _ .i64 .i64 a b (by kernel_rfl)
  have s1 : ("kernel" = "_") = False := by simp
  have s2 : ("scale" = "_") = False := by simp
  cases h1 : (a == c) <;> cases h2 : (b == d) <;> simp [Op.eqFields, n1, n2, t1, t2, o1, o2, p1, p2, q, h1, h2, s1, s2]

/-- Block B holds a map of these entries, in that order. -/
def MapHas (W : World) (B : Nat) (ps : List ((Int × Int) × Value)) : Prop := ∃ es clk, W.heap[B]? = some (.map es clk) ∧ es.toList.map (fun e => (e.key, e.val)) = ps.map (fun p => (keyV p.1, p.2))
theorem MapHas.gr {W W' : World} {B : Nat} {ps : List ((Int × Int) × Value)} (h : MapHas W B ps) (g : Gr W W') : MapHas W' B ps := by
  obtain ⟨es, clk, hb, he⟩ := h
  exact ⟨es, clk, (g.block (Array.getElem?_eq_some_iff.1 hb).1).trans hb, he⟩
theorem MapHas.lt {W : World} {B : Nat} {ps : List ((Int × Int) × Value)} (h : MapHas W B ps) : B < W.heap.size := by
  obtain ⟨es, clk, hb, he⟩ := h
  exact (Array.getElem?_eq_some_iff.1 hb).1

theorem find_asking (x : Int × Int) (w : World) : ∀ (l : List MapEntry) (ps : List ((Int × Int) × Value)) (i : Nat), l.map (fun e => (e.key, e.val)) = ps.map (fun p => (keyV p.1, p.2)) →
    ∃ r, (Instr.findAsking 52 (keyV x) l i).run Try.prog w = .ok r w ∧ r.map (·.2) = (ps.find? (fun p => x == p.1)).map (·.2) := by
  intro l
  induction l with
  | nil =>
    intro ps i h
    cases ps with
    | nil => exact ⟨none, rfl, rfl⟩
    | cons p ps => cases h
  | cons e l ih =>
    intro ps i h
    cases ps with
    | nil => cases h
    | cons p ps =>
      simp only [List.map_cons, List.cons.injEq, Prod.mk.injEq] at h
      obtain ⟨⟨hk, hv⟩, ht⟩ := h
      have he := key_equal x p.1 w
      rw [← hk] at he
      cases hx : (x == p.1)
      · obtain ⟨r, hr, hm⟩ := ih ps (i + 1) ht
        refine ⟨r, ?_, ?_⟩
        · simp [Instr.findAsking, he, hx, hr, Result.andThen]
        · rw [hm, List.find?_cons, hx]
      · refine ⟨some (i, e.val), ?_, ?_⟩
        · simp [Instr.findAsking, he, hx, Result.andThen]
        · rw [List.find?_cons, hx, hv]; rfl
theorem run_find (x : Int × Int) (w : World) (l : List MapEntry) (ps : List ((Int × Int) × Value)) (h : l.map (fun e => (e.key, e.val)) = ps.map (fun p => (keyV p.1, p.2))) :
    ∃ r, (Instr.findKey 52 (keyV x) l).run Try.prog w = .ok r w ∧ r.map (·.2) = (ps.find? (fun p => x == p.1)).map (·.2) := by
  cases l with
  | nil =>
    cases ps with
    | nil => exact ⟨none, by kernel_rfl, rfl⟩
    | cons p ps => cases h
  | cons e l =>
    obtain ⟨r, hr, hm⟩ := find_asking x w (e :: l) ps 0 h
    refine ⟨r, ?_, hm⟩
    rw [← hr]
    have hn : ∀ d, Try.prog.underlying 52 = some d → Instr.findNow d (keyV x) (e :: l) 0 = none := by
      intro d hd
      have hfs : Try.prog.underlying 52 = some (.struct (Try.prog.fieldsOf 52)) := by kernel_rfl
      rw [hfs] at hd
      cases hd
      simp [Instr.findNow, Instr.sameNow]
    have hd : Try.prog.underlying 52 = some (.struct (Try.prog.fieldsOf 52)) := by kernel_rfl
    simp [Instr.findKey, run_underlying hd, hn _ hd, Result.andThen]

theorem zero_rule (w : World) : (zeroValue 47).run Try.prog w = .ok (.agg #[.int .i64 0, .int .i64 0, .int .i64 0, .int .i64 0]) w := by kernel_rfl
def zeroR : Value := .agg #[.int .i64 0, .int .i64 0, .int .i64 0, .int .i64 0]
/-- A look-up. -/
theorem run_lookup (x : Int × Int) (w : World) (B : Nat) (ps : List ((Int × Int) × Value)) (h : MapHas w B ps) (ok : Bool) :
    (Instr.lookup 49 (.map (some B)) (keyV x) ok).run Try.prog w =
      .ok (if ok = true then .tuple #[((ps.find? (fun p => x == p.1)).map (·.2)).getD zeroR, .bool (ps.find? (fun p => x == p.1)).isSome] else ((ps.find? (fun p => x == p.1)).map (·.2)).getD zeroR) w := by
  obtain ⟨es, clk, hb, he⟩ := h
  obtain ⟨r, hr, hm⟩ := run_find x w es.toList ps he
  obtain ⟨k, e, hu, rfl, rfl⟩ := und_map
  have hz := zero_rule w
  cases hf : ps.find? (fun p => x == p.1) with
  | none =>
    rw [hf] at hm
    cases r with
    | some r => cases hm
    | none => cases ok <;> simp [Instr.lookup, run_underlying hu, MapKept.run_getObj_map hb, key_check, hr, hz, Result.andThen, zeroR]
  | some p =>
    rw [hf] at hm
    cases r with
    | none => cases hm
    | some r =>
      simp only [Option.map_some, Option.some.injEq] at hm
      obtain ⟨i, v⟩ := r
      simp only at hm
      subst hm
      cases ok <;> simp [Instr.lookup, run_underlying hu, MapKept.run_getObj_map hb, key_check, hr, Result.andThen]

/-- A new entry. -/
theorem run_insert (x : Int × Int) (v : Value) (w : World) (B : Nat) (ps : List ((Int × Int) × Value)) (h : MapHas w B ps) (hn : ps.find? (fun p => x == p.1) = none) :
    ∃ w', (Instr.mapUpdate 49 (.map (some B)) (keyV x) v).run Try.prog w = .ok () w' ∧ MapHas w' B (ps ++ [(x, v)]) ∧ ∀ u, Gr u w → u.heap.size ≤ B → Gr u w' := by
  obtain ⟨es, clk, hb, he⟩ := h
  obtain ⟨r, hr, hm⟩ := run_find x w es.toList ps he
  obtain ⟨k, e, hu, rfl, rfl⟩ := und_map
  rw [hn] at hm
  cases r with
  | some r => cases hm
  | none =>
    refine ⟨{ w with heap := w.heap.setIfInBounds B (.map (es.push ⟨keyV x, v, clk⟩) (clk + 1)) }, by simp [Instr.mapUpdate, run_underlying hu, MapKept.run_getObj_map hb, key_check, hr, MapKept.run_setObj_map _ hb, Result.andThen], ⟨_, _, (MapKept.heap_set hb).1, ?_⟩, ?_⟩
    · simp [he]
    · intro u g hB
      exact ⟨g.out.os, g.out.tape, g.out.output, by have := g.out.size; simpa using this, fun j hj => ((MapKept.heap_set hb).2 j (by omega)).trans (g.out.block j hj)⟩

/-- The rules of all kinds of passes: times, added, least, most. -/
def rulesN : List ((Int × Int) × (Int × Int × Int × Int)) := [((2, 0), (2, 224, 1, 1)), ((2, 1), (2, 224, 0, 2)), ((2, 2), (2, 608, 0, 0)), ((4, 0), (4, 288, 2, 2)), ((4, 1), (4, 288, 0, 3)), ((4, 2), (4, 1632, 0, 0))]
def ruleR (r : Int × Int × Int × Int) : Value := .agg #[.int .i64 r.1, .int .i64 r.2.1, .int .i64 r.2.2.1, .int .i64 r.2.2.2]
def entR (p : (Int × Int) × (Int × Int × Int × Int)) : (Int × Int) × Value := (p.1, ruleR p.2)
def rulesL : List ((Int × Int) × Value) := rulesN.map entR
def ruleOf (x : Int × Int) : Option (Int × Int × Int × Int) := (rulesN.find? (fun p => x == p.1)).map (·.2)
/-- Block B holds the rules, in whatever order. -/
def RulesAt (W : World) (B : Nat) : Prop := ∃ ps, MapHas W B ps ∧ ∀ p, p ∈ ps ↔ p ∈ rulesL
theorem RulesAt.gr {W W' : World} {B : Nat} (h : RulesAt W B) (g : Gr W W') : RulesAt W' B := by
  obtain ⟨ps, hm, hp⟩ := h
  exact ⟨ps, hm.gr g, hp⟩
theorem RulesAt.lt {W : World} {B : Nat} (h : RulesAt W B) : B < W.heap.size := by
  obtain ⟨ps, hm, hp⟩ := h
  exact hm.lt
theorem rules_keys : ∀ p q, p ∈ rulesL → q ∈ rulesL → p.1 = q.1 → p = q := by
  intro p q hp hq h
  simp only [rulesL, rulesN, entR, List.map_cons, List.map_nil, List.mem_cons, List.not_mem_nil, or_false] at hp hq
  rcases hp with rfl | rfl | rfl | rfl | rfl | rfl <;> rcases hq with rfl | rfl | rfl | rfl | rfl | rfl <;> first | rfl | (simp at h)
theorem find_rules (ps : List ((Int × Int) × Value)) (h : ∀ p, p ∈ ps ↔ p ∈ rulesL) (x : Int × Int) : ps.find? (fun p => x == p.1) = rulesL.find? (fun p => x == p.1) := by
  cases hf : ps.find? (fun p => x == p.1) with
  | none =>
    rw [List.find?_eq_none] at hf
    symm
    rw [List.find?_eq_none]
    exact fun p hp => hf p ((h p).2 hp)
  | some p =>
    have hp := (h p).1 (List.mem_of_find?_eq_some hf)
    have hx := List.find?_some hf
    cases hg : rulesL.find? (fun p => x == p.1) with
    | none =>
      rw [List.find?_eq_none] at hg
      exact absurd hx (hg p hp)
    | some q =>
      have hq := List.mem_of_find?_eq_some hg
      have hy := List.find?_some hg
      simp only [beq_iff_eq] at hx hy
      rw [rules_keys p q hp hq (hx.symm.trans hy)]
theorem find_ruleOf (x : Int × Int) : rulesL.find? (fun p => x == p.1) = (rulesN.find? (fun p => x == p.1)).map entR := by
  unfold rulesL
  rw [List.find?_map]
  rfl
/-- A look-up among the rules. -/
theorem RulesAt.look {W : World} {B : Nat} (h : RulesAt W B) (k s : Int) (ok : Bool) :
    (Instr.lookup 49 (.map (some B)) (.agg #[.int .i64 k, .int .i64 s]) ok).run Try.prog W =
      .ok (if ok = true then .tuple #[((ruleOf (k, s)).map ruleR).getD zeroR, .bool (ruleOf (k, s)).isSome] else ((ruleOf (k, s)).map ruleR).getD zeroR) W := by
  obtain ⟨ps, hm, hp⟩ := h
  have := run_lookup (k, s) W B ps hm ok
  rw [find_rules ps hp, find_ruleOf] at this
  unfold ruleOf
  cases hf : rulesN.find? (fun p => (k, s) == p.1) with
  | none => rw [hf] at this; exact this
  | some p => rw [hf] at this; exact this

section
variable {ops : Array Oper} {Q : Exit → Act → World → Prop} {md : Region.Mode}
def listM (b0 b1 b2 b3 b4 b5 : Bool) : Array Bool := #[true, true, true, b0, true, true, b1, true, true, b2, true, true, b3, true, true, b4, true, true, b5, false, false]
def readyM (b0 b1 b2 b3 b4 b5 : Bool) : List Nat := (if b0 then [] else [3]) ++ ((if b1 then [] else [6]) ++ ((if b2 then [] else [9]) ++ ((if b3 then [] else [12]) ++ ((if b4 then [] else [15]) ++ ((if b5 then [] else [18]) ++ (if b0 && b1 && b2 && b3 && b4 && b5 then [19] else []))))))
def pickM (b0 b1 b2 b3 b4 b5 : Bool) : List ((Int × Int) × Value) := (if b0 then [entR ((2, 0), (2, 224, 1, 1))] else []) ++ ((if b1 then [entR ((2, 1), (2, 224, 0, 2))] else []) ++ ((if b2 then [entR ((2, 2), (2, 608, 0, 0))] else []) ++ ((if b3 then [entR ((4, 0), (4, 288, 2, 2))] else []) ++ ((if b4 then [entR ((4, 1), (4, 288, 0, 3))] else []) ++ (if b5 then [entR ((4, 2), (4, 1632, 0, 0))] else [])))))
def leftM (b0 b1 b2 b3 b4 b5 : Bool) : Nat := (if b0 then 0 else 1) + ((if b1 then 0 else 1) + ((if b2 then 0 else 1) + ((if b3 then 0 else 1) + ((if b4 then 0 else 1) + (if b5 then 0 else 1)))))
theorem mem_pickM (b0 b1 b2 b3 b4 b5 : Bool) (p : (Int × Int) × Value) : p ∈ pickM b0 b1 b2 b3 b4 b5 ↔ (b0 = true ∧ p = entR ((2, 0), (2, 224, 1, 1))) ∨ (b1 = true ∧ p = entR ((2, 1), (2, 224, 0, 2))) ∨ (b2 = true ∧ p = entR ((2, 2), (2, 608, 0, 0))) ∨ (b3 = true ∧ p = entR ((4, 0), (4, 288, 2, 2))) ∨ (b4 = true ∧ p = entR ((4, 1), (4, 288, 0, 3))) ∨ (b5 = true ∧ p = entR ((4, 2), (4, 1632, 0, 0))) := by
  have h : ∀ (b : Bool) (e : (Int × Int) × Value), p ∈ (if b then [e] else []) ↔ b = true ∧ p = e := by
    intro b e
    cases b <;> simp
  unfold pickM
  rw [List.mem_append, List.mem_append, List.mem_append, List.mem_append, List.mem_append, h, h, h, h, h, h]
/-- Operation i lays the entry p into the map of block B. -/
def Lays (ops : Array Oper) (a : Act) (B : Nat) (i : Nat) (p : (Int × Int) × (Int × Int × Int × Int)) : Prop :=
  ∃ o, ops[i]? = some o ∧ Region.wanted o (yielded ops a.tmps) = true ∧ a.put o.dst undef = a ∧ execOp a.eval o = (do Instr.mapUpdate 49 (.map (some B)) (keyV p.1) (ruleR p.2); pure .skip)

theorem lays_step {a : Act} {B i : Nat} {p : (Int × Int) × (Int × Int × Int × Int)} {K : Act → World → Prop} {w : World} {ps : List ((Int × Int) × Value)} (h : Lays ops a B i p) (hm : MapHas w B ps) (hn : ∀ q ∈ ps, p.1 ≠ q.1)
    (hK : ∀ w', MapHas w' B (ps ++ [entR p]) → (∀ u, Gr u w → u.heap.size ≤ B → Gr u w') → K a w') : wpOp Try.prog ops Q i K a w := by
  obtain ⟨o, ho, hw, hp, hr⟩ := h
  obtain ⟨w', h1, h2, h3⟩ := run_insert p.1 (ruleR p.2) w B ps hm (by
    rw [List.find?_eq_none]
    intro q hq
    simpa using hn q hq)
  unfold wpOp
  rw [ho]
  simp only [hw, if_true]
  refine .inl ?_
  unfold Oper.wp
  rw [hr, Sem.run_bind, h1]
  show K (a.put o.dst undef) w'
  rw [hp]
  exact hK w' h2 h3

theorem none_M (b0 b1 b2 b3 b4 b5 : Bool) (n : Nat) (hn : leftM b0 b1 b2 b3 b4 b5 = n + 1) : readyM b0 b1 b2 b3 b4 b5 ≠ [] ∧ ∀ i ∈ readyM b0 b1 b2 b3 b4 b5, (b0 = false ∧ i = 3) ∨ (b1 = false ∧ i = 6) ∨ (b2 = false ∧ i = 9) ∨ (b3 = false ∧ i = 12) ∨ (b4 = false ∧ i = 15) ∨ (b5 = false ∧ i = 18) := by
  have key : ∀ b0 b1 b2 b3 b4 b5 : Bool, (leftM b0 b1 b2 b3 b4 b5 == 0 || (readyM b0 b1 b2 b3 b4 b5 != [] && (readyM b0 b1 b2 b3 b4 b5).all fun i => (!b0 && i == 3) || ((!b1 && i == 6) || ((!b2 && i == 9) || ((!b3 && i == 12) || ((!b4 && i == 15) || (!b5 && i == 18))))))) = true := by decide +kernel
  have h := key b0 b1 b2 b3 b4 b5
  rw [hn] at h
  simp only [Nat.add_eq_zero_iff, Nat.reduceEqDiff, and_false, beq_iff_eq, Bool.or_eq_true, Bool.and_eq_true, bne_iff_ne, List.all_eq_true, Bool.not_eq_true', false_or] at h
  exact h
theorem all_M (b0 b1 b2 b3 b4 b5 : Bool) (hn : leftM b0 b1 b2 b3 b4 b5 = 0) : b0 = true ∧ b1 = true ∧ b2 = true ∧ b3 = true ∧ b4 = true ∧ b5 = true := by
  revert b0 b1 b2 b3 b4 b5
  decide +kernel
theorem inserts_M {a : Act} {B : Nat} {u : World} {fuel : Nat} (hready : ∀ b0 b1 b2 b3 b4 b5, Region.ready md ops (listM b0 b1 b2 b3 b4 b5) = readyM b0 b1 b2 b3 b4 b5) (hB : u.heap.size ≤ B)
    (L0 : Lays ops a B 3 ((2, 0), (2, 224, 1, 1))) (L1 : Lays ops a B 6 ((2, 1), (2, 224, 0, 2))) (L2 : Lays ops a B 9 ((2, 2), (2, 608, 0, 0)))
    (L3 : Lays ops a B 12 ((4, 0), (4, 288, 2, 2))) (L4 : Lays ops a B 15 ((4, 1), (4, 288, 0, 3))) (L5 : Lays ops a B 18 ((4, 2), (4, 1632, 0, 0)))
    (hfin : ∀ w, RulesAt w B → Gr u w → wpAnyH Try.prog md ops Q (fun _ => True) fuel (listM true true true true true true) a w) :
    ∀ (n : Nat) (b0 b1 b2 b3 b4 b5 : Bool) (w : World) (ps : List ((Int × Int) × Value)), leftM b0 b1 b2 b3 b4 b5 = n → Gr u w → MapHas w B ps → (∀ p, p ∈ ps ↔ p ∈ pickM b0 b1 b2 b3 b4 b5) →
      wpAnyH Try.prog md ops Q (fun _ => True) (n + fuel) (listM b0 b1 b2 b3 b4 b5) a w := by
  intro n
  induction n with
  | zero =>
    intro b0 b1 b2 b3 b4 b5 w ps hn g hm hp
    have := all_M _ _ _ _ _ _ hn
    obtain ⟨rfl, rfl, rfl, rfl, rfl, rfl⟩ := this
    rw [Nat.zero_add]
    exact hfin w ⟨ps, hm, hp⟩ g
  | succ n ih =>
    intro b0 b1 b2 b3 b4 b5 w ps hn g hm hp
    rw [show n + 1 + fuel = (n + fuel) + 1 by omega]
    have hno := none_M _ _ _ _ _ _ _ hn
    refine ⟨fun h => absurd ((hready _ _ _ _ _ _).symm.trans h) hno.1, fun i hi => ?_⟩
    · rw [hready] at hi
      have hc := hno.2 i hi
      clear hi
      clear hno
      rcases hc with ⟨rfl, rfl⟩ | ⟨rfl, rfl⟩ | ⟨rfl, rfl⟩ | ⟨rfl, rfl⟩ | ⟨rfl, rfl⟩ | ⟨rfl, rfl⟩
      · refine lays_step L0 hm (fun q hq => ?_) (fun w' h1 h2 => ⟨trivial, ih true b1 b2 b3 b4 b5 w' _ ?_ (h2 u g hB) h1 (fun p => ?_)⟩)
        · have hq := (mem_pickM _ _ _ _ _ _ q).1 ((hp q).1 hq)
          rcases hq with ⟨hb, rfl⟩ | ⟨hb, rfl⟩ | ⟨hb, rfl⟩ | ⟨hb, rfl⟩ | ⟨hb, rfl⟩ | ⟨hb, rfl⟩ <;> first | (exact absurd hb (by decide)) | (simp [entR]; done)
        · simp only [leftM, if_true, Bool.false_eq_true, if_false] at hn ⊢
          omega
        · rw [List.mem_append, hp p, mem_pickM, mem_pickM, List.mem_singleton]
          simp only [Bool.false_eq_true, false_and, false_or, true_and]
          grind
      · refine lays_step L1 hm (fun q hq => ?_) (fun w' h1 h2 => ⟨trivial, ih b0 true b2 b3 b4 b5 w' _ ?_ (h2 u g hB) h1 (fun p => ?_)⟩)
        · have hq := (mem_pickM _ _ _ _ _ _ q).1 ((hp q).1 hq)
          rcases hq with ⟨hb, rfl⟩ | ⟨hb, rfl⟩ | ⟨hb, rfl⟩ | ⟨hb, rfl⟩ | ⟨hb, rfl⟩ | ⟨hb, rfl⟩ <;> first | (exact absurd hb (by decide)) | (simp [entR]; done)
        · simp only [leftM, if_true, Bool.false_eq_true, if_false] at hn ⊢
          omega
        · rw [List.mem_append, hp p, mem_pickM, mem_pickM, List.mem_singleton]
          simp only [Bool.false_eq_true, false_and, false_or, true_and]
          grind
      · refine lays_step L2 hm (fun q hq => ?_) (fun w' h1 h2 => ⟨trivial, ih b0 b1 true b3 b4 b5 w' _ ?_ (h2 u g hB) h1 (fun p => ?_)⟩)
        · have hq := (mem_pickM _ _ _ _ _ _ q).1 ((hp q).1 hq)
          rcases hq with ⟨hb, rfl⟩ | ⟨hb, rfl⟩ | ⟨hb, rfl⟩ | ⟨hb, rfl⟩ | ⟨hb, rfl⟩ | ⟨hb, rfl⟩ <;> first | (exact absurd hb (by decide)) | (simp [entR]; done)
        · simp only [leftM, if_true, Bool.false_eq_true, if_false] at hn ⊢
          omega
        · rw [List.mem_append, hp p, mem_pickM, mem_pickM, List.mem_singleton]
          simp only [Bool.false_eq_true, false_and, false_or, true_and]
          grind
      · refine lays_step L3 hm (fun q hq => ?_) (fun w' h1 h2 => ⟨trivial, ih b0 b1 b2 true b4 b5 w' _ ?_ (h2 u g hB) h1 (fun p => ?_)⟩)
        · have hq := (mem_pickM _ _ _ _ _ _ q).1 ((hp q).1 hq)
          rcases hq with ⟨hb, rfl⟩ | ⟨hb, rfl⟩ | ⟨hb, rfl⟩ | ⟨hb, rfl⟩ | ⟨hb, rfl⟩ | ⟨hb, rfl⟩ <;> first | (exact absurd hb (by decide)) | (simp [entR]; done)
        · simp only [leftM, if_true, Bool.false_eq_true, if_false] at hn ⊢
          omega
        · rw [List.mem_append, hp p, mem_pickM, mem_pickM, List.mem_singleton]
          simp only [Bool.false_eq_true, false_and, false_or, true_and]
          grind
      · refine lays_step L4 hm (fun q hq => ?_) (fun w' h1 h2 => ⟨trivial, ih b0 b1 b2 b3 true b5 w' _ ?_ (h2 u g hB) h1 (fun p => ?_)⟩)
        · have hq := (mem_pickM _ _ _ _ _ _ q).1 ((hp q).1 hq)
          rcases hq with ⟨hb, rfl⟩ | ⟨hb, rfl⟩ | ⟨hb, rfl⟩ | ⟨hb, rfl⟩ | ⟨hb, rfl⟩ | ⟨hb, rfl⟩ <;> first | (exact absurd hb (by decide)) | (simp [entR]; done)
        · simp only [leftM, if_true, Bool.false_eq_true, if_false] at hn ⊢
          omega
        · rw [List.mem_append, hp p, mem_pickM, mem_pickM, List.mem_singleton]
          simp only [Bool.false_eq_true, false_and, false_or, true_and]
          grind
      · refine lays_step L5 hm (fun q hq => ?_) (fun w' h1 h2 => ⟨trivial, ih b0 b1 b2 b3 b4 true w' _ ?_ (h2 u g hB) h1 (fun p => ?_)⟩)
        · have hq := (mem_pickM _ _ _ _ _ _ q).1 ((hp q).1 hq)
          rcases hq with ⟨hb, rfl⟩ | ⟨hb, rfl⟩ | ⟨hb, rfl⟩ | ⟨hb, rfl⟩ | ⟨hb, rfl⟩ | ⟨hb, rfl⟩ <;> first | (exact absurd hb (by decide)) | (simp [entR]; done)
        · simp only [leftM, if_true, Bool.false_eq_true, if_false] at hn ⊢
          omega
        · rw [List.mem_append, hp p, mem_pickM, mem_pickM, List.mem_singleton]
          simp only [Bool.false_eq_true, false_and, false_or, true_and]
          grind
end

end Go.Proofs.Ytmjghakodgihiaa
