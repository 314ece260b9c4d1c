import PyProof.Rows.All
import Wide.All
import OpenK.AllK
import Wide.FinOn
import HandS.ForMost
import HandS.Wide
import HandS.Gcd
import HandS.IsInst
import HandS.TupAny
import HandS.SortInts
import HandS.Style
import HandS.Codes
import HandS.Walk
import HandS.RaiseMore
import PySem.Challenge.RW_dustwithin_k01_fractions_of_anything
set_option Elab.async false
set_option maxRecDepth 100000
namespace My
open PySem PySem.Spec PyProof.Rows L2

/-! ### sorted(t), t a tuple of ints -/
section
variable {prog : Program} {w : World} {A : Around} {E : Value → Shared → Prop} {s : Shared}
theorem gather_tup {t : Addr} {us : List Value} {Q : List Value → Shared → Prop} (ht : IsTup s.heap t us.toArray) (hz : us.length ≤ sizeLine)
    (q : Q us { s with heap := (s.heap.push (seqObj "list" #[] 0)).update s.heap.objs.size (Obj.mapSeq (· ++ us.toArray)) }) : wpAny (model prog w) A (collect (.ref t)) Q E s := by
  obtain ⟨ob, hob, hcl, m, hdat⟩ := ht
  unfold collect
  refine wpAny_bind (wpAny_runValue (codeAny_builtin entry_proto_collect' ?_))
  show wpAny _ _ (do again (.builtin "list.__iadd__" ⟨[← newList [], .ref t], []⟩)) _ _ s
  refine wpAny_bind (wpAny_newList (wpAny_pure ⟨Code.quiet_builtin _ (by decide +kernel), codeAny_builtin entry_list_iadd' ?_⟩))
  show wpAny _ _ (Builtin.List.listExtendWith (.ref s.heap.objs.size) (.ref t) (.ref s.heap.objs.size)) _ _ { s with heap := s.heap.push (seqObj "list" #[] 0) }
  unfold Builtin.List.listExtendWith
  have hob1 : (s.heap.push (seqObj "list" #[] 0)).get? t = some ob := Heap.get?_push_of_some _ hob
  have e2 : (Value.type "tuple" == Value.type "tuple") = true := by rfl
  refine wpAny_bind (wpAny_typeOf (T := "tuple") ⟨ob, hob1, hcl⟩ ?_); rw [if_pos (by rw [e2]; simp)]
  refine wpAny_bind (listItems_at hob1 hdat ?_); refine wpAny_bind (listItems_at (n := 0) (xs := #[]) (Heap.get?_push_size _ rfl) rfl ?_); rw [if_neg (by simp)]
  refine wpAny_bind (listUpdate_at (n := 0) (xs := #[]) (Heap.get?_push_size _ rfl) rfl ?_ (Nat.zero_le _) (by show (#[] ++ us.toArray).size ≤ sizeLine + 1; simp only [Array.size_append, List.size_toArray, List.length_nil]; omega))
  refine wpAny_pure ?_; show wpAny (model prog w) A (do
      let ob ← load s.heap.objs.size
      match ob.data with
      | .seq xs _ => pure xs.toList
      | _ => unsupported "internal:collect") Q E { s with heap := (s.heap.push (seqObj "list" #[] 0)).update s.heap.objs.size (Obj.mapSeq (· ++ us.toArray)) }
  refine wpAny_bind (wpAny_load (get?_update_seq (Heap.get?_push_size _ rfl) _) ?_)
  show wpAny _ _ (pure ((#[] : Array Value) ++ us.toArray).toList) Q E _
  rw [show ((#[] : Array Value) ++ us.toArray).toList = us by simp]; exact wpAny_pure q
theorem sorted_tup {t : Addr} {us : List Value} {ms : List Int} {Q : Value → Shared → Prop} (ht : IsTup s.heap t us.toArray) (hI : IntsAre us ms) (h64 : us.length < 64)
    (q : ∀ (out : Array Value) (ms' : List Int), IntsAre out.toList ms' → ms'.Perm ms → ms'.Pairwise (· ≤ ·) → Q (.ref (s.heap.objs.size + 1)) { s with heap := sortedAll s.heap us out }) :
    wpAny (model prog w) A (call (.builtin "sorted") [.ref t]) Q E s := by
  refine Calls.call_function_entry kind_sorted plain_sorted entry_sorted (args_sorted1 _) ?_; unfold Builtin.«sorted»
  refine wpAny_bind (m := checkCount "sorted" 1 1 _) (wpAny_pure ?_)
  refine wpAny_bind (gather_tup ht (small64 h64) ?_); refine wpAny_bind (wpAny_newList ?_ (small64 h64))
  have k1 : ((s.heap.push (seqObj "list" #[] 0)).update s.heap.objs.size (Obj.mapSeq (· ++ us.toArray))).objs.size = s.heap.objs.size + 1 := by rw [Heap.size_update, size_push']
  have k2 : (((s.heap.push (seqObj "list" #[] 0)).update s.heap.objs.size (Obj.mapSeq (· ++ us.toArray))).push (seqObj "list" us.toArray 0)).get? (s.heap.objs.size + 1) = some (seqObj "list" us.toArray 0) := by rw [← k1]; exact Heap.get?_push_size _ rfl
  show wpAny _ _ _ _ _ { s with heap := ((s.heap.push (seqObj "list" #[] 0)).update s.heap.objs.size (Obj.mapSeq (· ++ us.toArray))).push (seqObj "list" us.toArray 0) }
  rw [k1]
  refine wpAny_bind (wpAny_holding (wpAny_call_entry slot_list_sort ⟨_, k2, rfl⟩ entry_list_sort (list_sort_tree k2 hI h64 fun out ms' a1 a2 a3 => ⟨_, rfl, ?_⟩) (args_list_sort _)))
  exact wpAny_pure ⟨_, rfl, q out ms' a1 a2 a3⟩
end
section
variable {X : Cx}
theorem cr_sortedTup : CallR X (.builtin "sorted") (fun vs H Q => ∃ (a : Addr) (ms : List Int), vs = [V.ref a] ∧ SqT X.K H a (ms.map V.int) ∧ ms.length < 64 ∧
    ∀ (ms' : List Int) (p : Addr), ms'.Perm ms → ms'.Pairwise (· ≤ ·) → H p = none → Q (.ref p) (upd H p (.lst (ms'.map V.int)))) := by
  intro pins s σ H vs us Q I r h
  obtain ⟨a, ms, rfl, hs, h64, q⟩ := h
  obtain ⟨its, rv, hl, _⟩ := I.tuple hs
  rw [Vals.ref1 r]
  have hi := rv.ints
  refine sorted_tup hl hi (by rw [hi.length]; exact h64) fun out ms' h1 h2 h3 => ?_
  obtain ⟨ep, he⟩ := PyProof.Rows.sortedAll_at s.heap its out
  have hlen : (ms'.map V.int).length ≤ sizeLine := by rw [List.length_map, h2.length_eq]; exact small64 h64
  exact ⟨.ref _, upd H (s.heap.objs.size + 1) (.lst (ms'.map V.int)), I.laid (t' := s.toks) (fun _ _ => sortedAll_old) (Nat.le_succ _) ⟨hlen, out.toList, ep, vals_of_ints h1, he⟩, rfl, q ms' _ h2 h3 (I.hok.fresh (Nat.le_succ _))⟩
end

/-! ### data that stands still: G is a part of the heap that nothing writes -/
mutual
inductive Dq (K : PySem.W.Frag) (G : Hp) : V → PyData → Prop
  | non : Dq K G .non .none
  | bl (b : Bool) : Dq K G (.bl b) (.bool b)
  | int (i : Int) : Dq K G (.int i) (.int i)
  | str (x : Str) : Dq K G (.str x) (.str x)
  | lst {a : Addr} {xs : List V} {ds : List PyData} : G a = some (.lst xs) → DqAll K G xs ds → Dq K G (.ref a) (.list ds)
  | tup {a : Addr} {xs : List V} {ds : List PyData} : G a = some (.tup xs) → DqAll K G xs ds → Dq K G (.ref a) (.tuple ds)
  | dct {a : Addr} {kvs : List (Key × V)} {ds : List (PyData × PyData)} : G a = some (.dK kvs) → DqAll K G (kvs.map fun kv => kV kv.1) (ds.map (·.1)) → DqAll K G (kvs.map (·.2)) (ds.map (·.2)) → Dq K G (.ref a) (.dict ds)
inductive DqAll (K : PySem.W.Frag) (G : Hp) : List V → List PyData → Prop
  | nil : DqAll K G [] []
  | cons {v : V} {vs : List V} {d : PyData} {ds : List PyData} : Dq K G v d → DqAll K G vs ds → DqAll K G (v :: vs) (d :: ds)
end
section
variable {K : PySem.W.Frag} {G G' H : Hp}
mutual
theorem Dq.mono (e : Same G G') : ∀ {v : V} {d : PyData}, Dq K G v d → Dq K G' v d
  | _, _, .non => .non
  | _, _, .bl b => .bl b
  | _, _, .int i => .int i
  | _, _, .str x => .str x
  | _, _, .lst h t => .lst (e _ _ h) (DqAll.mono e t)
  | _, _, .tup h t => .tup (e _ _ h) (DqAll.mono e t)
  | _, _, .dct h t u => .dct (e _ _ h) (DqAll.mono e t) (DqAll.mono e u)
theorem DqAll.mono (e : Same G G') : ∀ {vs : List V} {ds : List PyData}, DqAll K G vs ds → DqAll K G' vs ds
  | _, _, .nil => .nil
  | _, _, .cons h t => .cons (Dq.mono e h) (DqAll.mono e t)
end
theorem DqAll.append : ∀ {vs ws : List V} {ds es : List PyData}, DqAll K G vs ds → DqAll K G ws es → DqAll K G (vs ++ ws) (ds ++ es)
  | _, _, _, _, .nil, t => t
  | _, _, _, _, .cons h r, t => .cons h (DqAll.append r t)
theorem DqAll.get : ∀ {vs : List V} {ds : List PyData} {i : Nat} {v : V}, DqAll K G vs ds → vs[i]? = some v → ∃ d, ds[i]? = some d ∧ Dq K G v d
  | _, _, _, _, .nil, e => by simp at e
  | _, _, 0, _, .cons h _, e => by simp at e; subst e; exact ⟨_, rfl, h⟩
  | _, _, i + 1, v, .cons _ t, e => by
    obtain ⟨d, h1, h2⟩ := DqAll.get (i := i) (v := v) t (by simpa using e)
    exact ⟨d, by simpa using h1, h2⟩
theorem DqAll.len : ∀ {vs : List V} {ds : List PyData}, DqAll K G vs ds → vs.length = ds.length
  | _, _, .nil => rfl
  | _, _, .cons _ t => by rw [List.length_cons, List.length_cons, DqAll.len t]
theorem DqAll.drop : ∀ {vs : List V} {ds : List PyData} (n : Nat), DqAll K G vs ds → DqAll K G (vs.drop n) (ds.drop n)
  | _, _, 0, h => h
  | _, _, _ + 1, .nil => .nil
  | _, _, n + 1, .cons _ t => DqAll.drop n t
theorem DqAll.take : ∀ {vs : List V} {ds : List PyData} (n : Nat), DqAll K G vs ds → DqAll K G (vs.take n) (ds.take n)
  | _, _, 0, _ => .nil
  | _, _, _ + 1, .nil => .nil
  | _, _, n + 1, .cons h t => .cons h (DqAll.take n t)
theorem DqAll.rev : ∀ {vs : List V} {ds : List PyData}, DqAll K G vs ds → DqAll K G vs.reverse ds.reverse
  | _, _, .nil => .nil
  | _, _, .cons h t => by
    rw [List.reverse_cons, List.reverse_cons]
    exact DqAll.append (DqAll.rev t) (.cons h .nil)
theorem dq_ints (K : PySem.W.Frag) (G : Hp) : ∀ ns : List Int, DqAll K G (ns.map V.int) (ns.map PyData.int)
  | [] => .nil
  | n :: r => .cons (.int n) (dq_ints K G r)
end
mutual
def hasList : PyData → Bool
  | .list _ => true
  | .tuple xs => hasListAll xs
  | .dict kvs => hasListKv kvs
  | _ => false
def hasListAll : List PyData → Bool
  | [] => false
  | x :: xs => hasList x || hasListAll xs
def hasListKv : List (PyData × PyData) → Bool
  | [] => false
  | (k, v) :: r => hasList k || hasList v || hasListKv r
end
theorem hasListKv_split : ∀ kvs : List (PyData × PyData), hasListKv kvs = false → hasListAll (kvs.map (·.1)) = false ∧ hasListAll (kvs.map (·.2)) = false
  | [], _ => ⟨rfl, rfl⟩
  | (k, v) :: r, h => by
    simp only [hasListKv, Bool.or_eq_false_iff] at h
    obtain ⟨a, b⟩ := hasListKv_split r h.2
    simp only [List.map_cons, hasListAll, Bool.or_eq_false_iff]
    exact ⟨⟨h.1.1, a⟩, h.1.2, b⟩
section
variable {X : Cx} {pins : List (Addr × Obj)} {σ : L2.St} {H : Hp} {s : Shared}
theorem kv_keys {P : Program} {w : World} : ∀ {kvs : List (Key × V)} {vs : List (Key × Value)} {es : List DictEntry}, KV kvs vs → Pairs (mixKind P w) es vs → Vals (kvs.map fun kv => kV kv.1) (es.map (·.key)) ∧ Vals (kvs.map (·.2)) (es.map (·.val))
  | _, _, _, .nil, .nil => ⟨.nil, .nil⟩
  | (k, v) :: _, (k', v') :: _, _ :: _, .cons ⟨h1, h2⟩ t, .cons g1 g2 g3 => by
    obtain ⟨a, b⟩ := kv_keys t g3
    refine ⟨.cons ?_ a, .cons ?_ b⟩
    · have e : k = k' := h1
      subst e
      rcases keyIs_shape (show keyIs k _ = true from g1) with ⟨i, tk, rfl, e2⟩ | ⟨x, tk, rfl, e2⟩
      · exact ⟨tk, e2⟩
      · exact ⟨tk, e2⟩
    · have e2 : (_ : DictEntry).val = v' := g2
      show RelV v (DictEntry.val _)
      rw [e2]; exact h2
mutual
theorem Dq.reads (I : Inv X pins σ H s) : ∀ (d : PyData) (v : V) (u : Value), Dq X.K H v d → RelV v u → ∃ as, Reads s.heap u d as ∧ (hasList d = false → sysModules ∉ as)
  | .none, _, _, h, r => by cases h; cases r; exact ⟨_, Reads.none, fun _ z => nomatch z⟩
  | .bool b, _, _, h, r => by cases h; cases r; exact ⟨_, Reads.bool b, fun _ z => nomatch z⟩
  | .int i, _, _, h, r => by cases h; obtain ⟨t, rfl⟩ := r; exact ⟨_, Reads.int i t, fun _ z => nomatch z⟩
  | .str x, _, _, h, r => by cases h; obtain ⟨t, rfl⟩ := r; exact ⟨_, Reads.str x t, fun _ z => nomatch z⟩
  | .list ds, _, _, h, r => by
    cases h with
    | lst hs ha =>
      cases r
      obtain ⟨_, its, n, rv, ho⟩ := I.hok _ _ hs
      obtain ⟨as, hr, _⟩ := DqAll.reads I ds _ its ha rv
      exact ⟨_, Reads.list ho rfl rfl (by simpa using hr), fun z => nomatch z⟩
  | .tuple ds, _, _, h, r => by
    cases h with
    | tup hs ha =>
      cases r
      obtain ⟨_, its, rv, o, ho, hc, n, hd⟩ := I.hok _ _ hs
      obtain ⟨as, hr, hn⟩ := DqAll.reads I ds _ its ha rv
      exact ⟨_, Reads.tuple ho hc hd (by simpa using hr), fun z => hn (by simpa only [hasList] using z)⟩
  | .dict ds, _, _, h, r => by
    cases h with
    | dct hs hk hv =>
      rename_i a kvs
      cases r
      obtain ⟨_, hm, vs, rel, o, es, ep, ho, hx, hd, _, hp, _⟩ := I.hok _ _ hs
      obtain ⟨r1, r2⟩ := kv_keys rel hp
      obtain ⟨as, q1, n1⟩ := DqAll.readsK I ds _ _ hk r1
      obtain ⟨bs, q2, n2⟩ := DqAll.readsV I ds _ _ hv r2
      refine ⟨_, Reads.dict ho hx.1 hd q1 q2, fun z => ?_⟩
      obtain ⟨z1, z2⟩ := hasListKv_split ds (by simpa only [hasList] using z)
      intro hmem
      rcases List.mem_append.mp hmem with hmem | hmem
      · rcases List.mem_cons.mp hmem with e | e
        · rw [← e] at hm; simp at hm
        · exact n1 z1 e
      · exact n2 z2 hmem
theorem DqAll.reads (I : Inv X pins σ H s) : ∀ (ds : List PyData) (vs : List V) (us : List Value), DqAll X.K H vs ds → Vals vs us → ∃ as, ReadsAll s.heap us ds as ∧ (hasListAll ds = false → sysModules ∉ as)
  | [], _, _, h, r => by cases h; cases r; exact ⟨_, ReadsAll.nil, fun _ z => nomatch z⟩
  | d :: ds, _, _, h, r => by
    cases h with
    | cons h1 h2 =>
      cases r with
      | cons r1 r2 =>
        obtain ⟨as, q1, n1⟩ := Dq.reads I d _ _ h1 r1
        obtain ⟨bs, q2, n2⟩ := DqAll.reads I ds _ _ h2 r2
        refine ⟨_, ReadsAll.cons q1 q2, fun z hm => ?_⟩
        simp only [hasListAll, Bool.or_eq_false_iff] at z
        rcases List.mem_append.mp hm with e | e
        · exact n1 z.1 e
        · exact n2 z.2 e
theorem DqAll.readsK (I : Inv X pins σ H s) : ∀ (ds : List (PyData × PyData)) (vs : List V) (us : List Value), DqAll X.K H vs (ds.map (·.1)) → Vals vs us → ∃ as, ReadsAll s.heap us (ds.map (·.1)) as ∧ (hasListAll (ds.map (·.1)) = false → sysModules ∉ as)
  | [], _, _, h, r => by cases h; cases r; exact ⟨_, ReadsAll.nil, fun _ z => nomatch z⟩
  | (d, d') :: ds, _, _, h, r => by
    cases h with
    | cons h1 h2 =>
      cases r with
      | cons r1 r2 =>
        obtain ⟨as, q1, n1⟩ := Dq.reads I d _ _ h1 r1
        obtain ⟨bs, q2, n2⟩ := DqAll.readsK I ds _ _ h2 r2
        refine ⟨_, ReadsAll.cons q1 q2, fun z hm => ?_⟩
        simp only [List.map_cons, hasListAll, Bool.or_eq_false_iff] at z
        rcases List.mem_append.mp hm with e | e
        · exact n1 z.1 e
        · exact n2 z.2 e
theorem DqAll.readsV (I : Inv X pins σ H s) : ∀ (ds : List (PyData × PyData)) (vs : List V) (us : List Value), DqAll X.K H vs (ds.map (·.2)) → Vals vs us → ∃ as, ReadsAll s.heap us (ds.map (·.2)) as ∧ (hasListAll (ds.map (·.2)) = false → sysModules ∉ as)
  | [], _, _, h, r => by cases h; cases r; exact ⟨_, ReadsAll.nil, fun _ z => nomatch z⟩
  | (d, d') :: ds, _, _, h, r => by
    cases h with
    | cons h1 h2 =>
      cases r with
      | cons r1 r2 =>
        obtain ⟨as, q1, n1⟩ := Dq.reads I d' _ _ h1 r1
        obtain ⟨bs, q2, n2⟩ := DqAll.readsV I ds _ _ h2 r2
        refine ⟨_, ReadsAll.cons q1 q2, fun z hm => ?_⟩
        simp only [List.map_cons, hasListAll, Bool.or_eq_false_iff] at z
        rcases List.mem_append.mp hm with e | e
        · exact n1 z.1 e
        · exact n2 z.2 e
end
end
end My

namespace My
open PySem PySem.Spec PyProof.Rows L2
def topS (i : Nat) : Stmt := PySem.Challenge.pw_dustwithin_k01_fractions_of_anything.main.body.getD i (.Pass ⟨0, 0, 0, 0⟩)
abbrev sSpread : Stmt := topS 6
abbrev sOpen : Stmt := topS 7
abbrev sTake : Stmt := topS 8
/-! ### the pen -/
structure PenAt (H : Hp) (p : Addr) (t : Nat) : Prop where
  ex : ∃ (c : Addr) (cells : List Int) (at' rest : Int), H p = some (.lst [.ref c, .int at', .int rest]) ∧ H c = some (.lst (cells.map V.int)) ∧ 0 ≤ at' ∧ at' ≤ (t : Int)
theorem ne_len {H : Hp} {p c : Addr} {xs ys : List V} (h : H p = some (.lst xs)) (g : H c = some (.lst ys)) (e : xs ≠ ys) : c ≠ p := by
  intro z; subst z; rw [h] at g; cases g; exact e rfl
theorem pen_ne {H : Hp} {p c : Addr} {x : Addr} {i j : Int} {cells : List Int} (h : H p = some (.lst [.ref x, .int i, .int j])) (g : H c = some (.lst (cells.map V.int))) : c ≠ p :=
  ne_len h g (by intro z; cases cells with | nil => cases z | cons a r => cases z)
def But (p : Addr) (H H' : Hp) : Prop := ∀ b o, b ≠ p → H b = some o → H' b = some o
theorem But.of {p : Addr} {H H' : Hp} (e : Same H H') : But p H H' := fun b o _ => e b o
theorem But.trans {p : Addr} {H H1 H2 : Hp} (a : But p H H1) (b : But p H1 H2) : But p H H2 := fun c o n h => b c o n (a c o n h)
theorem But.upd {p : Addr} {H : Hp} {o : HO} : But p H (upd H p o) := fun b u n h => by rw [upd_ne n]; exact h
theorem PenAt.same {H H' : Hp} {p : Addr} {t u : Nat} (e : Same H H') (h : t ≤ u) (P : PenAt H p t) : PenAt H' p u := by
  obtain ⟨c, cells, x, y, h1, h2, h3, h4⟩ := P.ex
  exact ⟨c, cells, x, y, e _ _ h1, e _ _ h2, h3, by omega⟩
theorem Same.upd {H : Hp} {p : Addr} {o : HO} (n : H p = none) : Same H (upd H p o) := fun b u h => by rw [upd_ne (ne_of_none h n)]; exact h
/-! ### promises -/
def spSpread : Sp := fun vs H Q _ => ∃ (c a : Int), vs = [.int c, .int a] ∧ 0 ≤ a ∧ a < 2 ^ 30 ∧ ∀ (r : Int) (H' : Hp), Same H H' → Q (.int r) H'
def spOpen (K : PySem.W.Frag) : Sp := fun vs H Q _ => ∃ (a : Addr) (ns : List Int), vs = [.ref a] ∧ SqL K H a (ns.map V.int) ∧ ns.length ≤ 63 ∧ ∀ (p : Addr) (H' : Hp), H p = none → Same H H' → PenAt H' p 0 → Q (.ref p) H'
def spTake : Sp := fun vs H Q _ => ∃ (p : Addr) (n : Int) (t : Nat), vs = [.ref p, .int n] ∧ 0 < n ∧ n.natAbs < 2 ^ 8000 ∧ PenAt H p t ∧ t < 2 ^ 29 ∧ ∀ (m : Int) (H' : Hp), 0 ≤ m → m < n → But p H H' → PenAt H' p (t + 1) → Q (.int m) H'
section
variable {P : Program} {w : World} {K : PySem.W.Frag} {mg : Str → Option Value} {base : Heap}
def primesV : List V := [.int 2147483629, .int 2147483587, .int 2147483579, .int 2147483563, .int 2147483549, .int 2147483543, .int 2147483497, .int 2147483489] ++ [.int 2147483477, .int 2147483423, .int 2147483399, .int 2147483353, .int 2147483323]
theorem prime_at {j : Int} (h0 : 0 ≤ j) (h1 : j < 13) : ∃ q : Int, atI primesV j = some (.int q) ∧ 0 < q ∧ q < 2147483648 := by
  have h : j = 0 ∨ j = 1 ∨ j = 2 ∨ j = 3 ∨ j = 4 ∨ j = 5 ∨ j = 6 ∨ j = 7 ∨ j = 8 ∨ j = 9 ∨ j = 10 ∨ j = 11 ∨ j = 12 := by omega
  rcases h with rfl | rfl | rfl | rfl | rfl | rfl | rfl | rfl | rfl | rfl | rfl | rfl | rfl <;> exact ⟨_, rfl, by decide, by decide⟩
theorem mod_at {x : Int} : 0 ≤ x % 13 ∧ x % 13 < 13 := ⟨Int.emod_nonneg _ (by decide), Int.emod_lt_of_pos _ (by decide)⟩
theorem mod_lt {x q : Int} (h : 0 < q) (h2 : q < 2147483648) : 0 ≤ x % q ∧ x % q < 2147483648 := ⟨Int.emod_nonneg _ (by omega), by have := Int.emod_lt_of_pos x h; omega⟩
theorem scSpread : FnScope ["cell", "at", "primes", "one", "two", "three"] ["cell", "at"] (defScope sSpread) := ⟨rfl, rfl, rfl, by decide +kernel, rfl, by decide +kernel, by decide +kernel⟩
theorem pow_ok {i : Int} {j : Int} (hj : j = 3 ∨ j = 5) (h0 : 0 ≤ i) (h1 : i < 2 ^ 64) : CPow i j := by
  refine ⟨by omega, by omega, ?_⟩
  omega
theorem ok_spread {f : Addr} {fd : FuncData} (F : Fun K "_law_spread" "_law_spread" sSpread f fd) : FnOk P w K mg base CX0 1 f fd ["cell", "at"] spSpread := by
  refine F.ok scSpread (fun vs H Q E h => ?_) (fun cdv A outer s H vs Q E hr h => ?_)
  · obtain ⟨c, a, rfl, _⟩ := h
    rfl
  · obtain ⟨c, a, rfl, ha0, ha1, k⟩ := h
    refine ⟨_, pss_cons (ps_if (pt_cmpR op_ge (pv 0) (pe_op op_pow pe_int pe_int) (nomark _)) (pss_one (ps_ret (pv 0))) pss_nil)
      (pss_cons (ps_set (i := 2) scSpread.nd rfl (Or.inl rfl) (pe_lst (pa_cons pe_int (pa_cons pe_int (pa_cons pe_int (pa_cons pe_int (pa_cons pe_int (pa_cons pe_int (pa_cons pe_int (pa_cons pe_int pa_nil))))))))))
      (pss_cons (ps_set (i := 2) scSpread.nd rfl (Or.inl rfl) (pe_op op_cat (pv 2) (pe_lst (pa_cons pe_int (pa_cons pe_int (pa_cons pe_int (pa_cons pe_int (pa_cons pe_int pa_nil))))))))
      (pss_cons (ps_set (i := 3) scSpread.nd rfl (Or.inl rfl) (pe_op op_mod (pe_op op_pow (pe_op op_add (pe_op op_add (pe_op op_mul (pe_op op_mod (pv 0) pe_int) (pe_op op_add (pe_op op_mul pe_int (pv 1)) pe_int)) (pe_op op_mul (pv 1) pe_int)) pe_int) pe_int)
        (pe_ix ix_list (pv 2) (pe_op op_mod (pv 1) pe_int) (fun _ _ => rfl))))
      (pss_cons (ps_set (i := 4) scSpread.nd rfl (Or.inl rfl) (pe_op op_mod (pe_op op_pow (pe_op op_add (pe_op op_add (pe_op op_mul (pv 3) (pe_op op_add (pv 1) pe_int)) (pe_op op_mod (pv 0) pe_int)) pe_int) pe_int)
        (pe_ix ix_list (pv 2) (pe_op op_mod (pe_op op_add (pv 1) pe_int) pe_int) (fun _ _ => rfl))))
      (pss_cons (ps_set (i := 5) scSpread.nd rfl (Or.inl rfl) (pe_op op_mod (pe_op op_pow (pe_op op_add (pe_op op_add (pv 4) (pe_op op_mod (pv 3) pe_int)) (pv 1)) pe_int)
        (pe_ix ix_list (pv 2) (pe_op op_mod (pe_op op_add (pv 1) pe_int) pe_int) (fun _ _ => rfl))))
      (pss_one (ps_ret (pe_op op_add (pe_op op_mul (pe_op op_add (pe_op op_mul (pv 3) pe_int) (pv 4)) pe_int) (pv 5))))))))), ?_⟩
    refine ⟨_, rfl, _, _, rfl, rfl, ⟨by decide, by decide, by decide⟩, _, _, rfl, rfl, _, rfl, ite2 (fun _ => ⟨_, rfl, k _ _ (Same.refl H)⟩) (fun _ => ?_)⟩
    -- primes
    refine ⟨by decide, fun l1 n1 => ?_⟩
    refine ⟨_, rfl, by decide, fun l2 n2 => ?_⟩
    have l21 : l1 ≠ l2 := ne_of_none upd_same n2
    refine ⟨l1, l2, _, _, rfl, rfl, (by rw [upd_ne l21]; exact upd_same), upd_same, by decide, fun l3 n3 => ?_⟩
    -- one
    have c0 := Int.emod_nonneg c (show (1000000007 : Int) ≠ 0 by decide)
    have c1 := Int.emod_lt_of_pos c (show (0 : Int) < 1000000007 by decide)
    have b0 : 0 ≤ c % 1000000007 * (2 * a + 69069) := Int.mul_nonneg c0 (by omega)
    have b1 : c % 1000000007 * (2 * a + 69069) ≤ 1000000007 * (2 * 1073741824 + 69069) := Int.mul_le_mul (by omega) (by omega) (by omega) (by decide)
    obtain ⟨q1, a1, q10, q11⟩ := prime_at (mod_at (x := a)).1 mod_at.2
    refine ⟨_, rfl, _, _, rfl, rfl, (by show (0 : Int) < 1000000007; decide), _, rfl, _, _, rfl, rfl, .inl ⟨by decide, by decide⟩, _, _, rfl, rfl, _, _, rfl, rfl, .inl ⟨by omega, by omega⟩, _, rfl, _, _, rfl, rfl, .inl ⟨by omega, by omega⟩, _, _, rfl, rfl, _, _, rfl, rfl,
      _, _, rfl, rfl, pow_ok (.inl rfl) (by omega) (by omega), _, rfl, _, rfl, _, _, rfl, rfl, (by show (0 : Int) < 13; decide), l3, primesV, _, _, rfl, rfl, SqL.of upd_same, a1, _, _, rfl, rfl, q10, ?_⟩
    dsimp only
    generalize hz : (c % 1000000007 * (2 * a + 69069) + a * 40503 + 977) ^ (3 : Int).toNat % q1 = one
    have o1 := hz ▸ mod_lt (x := (c % 1000000007 * (2 * a + 69069) + a * 40503 + 977) ^ (3 : Int).toNat) q10 q11
    -- two
    obtain ⟨q2, a2, q20, q21⟩ := prime_at (mod_at (x := a + 5)).1 mod_at.2
    have d0 := Int.emod_nonneg c (show (65537 : Int) ≠ 0 by decide)
    have d1 := Int.emod_lt_of_pos c (show (0 : Int) < 65537 by decide)
    have e0 : 0 ≤ one * (a + 3) := Int.mul_nonneg o1.1 (by omega)
    have e1 : one * (a + 3) ≤ 2147483648 * (1073741824 + 3) := Int.mul_le_mul (by omega) (by omega) (by omega) (by decide)
    refine ⟨_, rfl, _, rfl, _, _, rfl, rfl, _, _, rfl, rfl, .inl ⟨by omega, by omega⟩, _, rfl, _, _, rfl, rfl, (by show (0 : Int) < 65537; decide), _, _, rfl, rfl, _, _, rfl, rfl,
      _, _, rfl, rfl, pow_ok (.inr rfl) (by omega) (by omega), _, rfl, _, rfl, _, _, rfl, rfl, _, _, rfl, rfl, (by show (0 : Int) < 13; decide), l3, primesV, _, _, rfl, rfl, SqL.of upd_same, a2, _, _, rfl, rfl, q20, ?_⟩
    dsimp only
    generalize hy : (one * (a + 3) + c % 65537 + 5) ^ (5 : Int).toNat % q2 = two
    have o2 := hy ▸ mod_lt (x := (one * (a + 3) + c % 65537 + 5) ^ (5 : Int).toNat) q20 q21
    -- three
    obtain ⟨q3, a3, q30, q31⟩ := prime_at (mod_at (x := a + 7)).1 mod_at.2
    have g0 := Int.emod_nonneg one (show (1009 : Int) ≠ 0 by decide)
    have g1 := Int.emod_lt_of_pos one (show (0 : Int) < 1009 by decide)
    refine ⟨_, rfl, _, rfl, _, _, rfl, rfl, (by show (0 : Int) < 1009; decide), _, _, rfl, rfl, _, rfl, _, _, rfl, rfl,
      _, _, rfl, rfl, pow_ok (.inl rfl) (by omega) (by omega), _, rfl, _, rfl, _, _, rfl, rfl, _, _, rfl, rfl, (by show (0 : Int) < 13; decide), l3, primesV, _, _, rfl, rfl, SqL.of upd_same, a3, _, _, rfl, rfl, q30, ?_⟩
    refine ⟨_, rfl, _, _, rfl, rfl, .inl ⟨by omega, by omega⟩, _, rfl, _, _, rfl, rfl, _, _, rfl, rfl, .inl ⟨by omega, by omega⟩, _, rfl, _, _, rfl, rfl, ?_⟩
    exact k _ _ (((Same.upd n1).trans (Same.upd n2)).trans (Same.upd n3))

theorem scTake : FnScope ["pen", "many", "at", "cell", "found"] ["pen", "many"] (defScope sTake) := ⟨rfl, rfl, rfl, by decide +kernel, rfl, by decide +kernel, by decide +kernel⟩
theorem nat_at {xs : List Int} {i : Int} (h0 : 0 ≤ i) (h1 : i < xs.length) : ∃ v : Int, atI (xs.map V.int) i = some (.int v) := by
  obtain ⟨j, rfl⟩ : ∃ j : Nat, i = (j : Int) := ⟨i.toNat, by omega⟩
  have hj : j < xs.length := by omega
  exact ⟨xs[j], atI_nat (by rw [List.getElem?_map, List.getElem?_eq_getElem hj]; rfl)⟩
theorem mapInt_len (xs : List Int) : ((xs.map V.int).length : Int) = (xs.length : Int) := by rw [List.length_map]
theorem ok_take {f fS : Addr} {fd fdS : FuncData} (F : Fun K "_law_take" "_law_take" sTake f fd) (ml : mg "len" = none) (FS : Fun K "_law_spread" "_law_spread" sSpread fS fdS) (bS : Binds K fdS ["cell", "at"] []) (gS : mg "_law_spread" = some (.ref fS)) :
    FnOk P w K mg base CX0 2 f fd ["pen", "many"] spTake := by
  have GS : FnOk P w K mg base CX0 1 fS fdS ["cell", "at"] spSpread := ok_spread FS
  refine F.ok scTake (fun vs H Q E h => ?_) (fun cdv A outer s H vs Q E hr h => ?_)
  · obtain ⟨p, n, t, rfl, _⟩ := h
    rfl
  · obtain ⟨p, n, t, rfl, n0, nb, PA, tb, k⟩ := h
    obtain ⟨c, cells, a1, r1, hp, hc, a10, a11⟩ := PA.ex
    have ncp : c ≠ p := pen_ne hp hc
    refine ⟨_, C8.pss_cut (ps_if (pt_cmpR op_lt (pe_ix ix_list (pv 0) pe_int (fun _ _ => rfl)) (pv 1) (nomark _))
        (pss_cons (ps_set (i := 2) scTake.nd rfl (Or.inl rfl) (pe_ix ix_list (pv 0) pe_int (fun _ _ => rfl)))
        (pss_cons (ps_set (i := 3) scTake.nd rfl (Or.inl rfl) pe_int)
        (C8.pss_cut (ps_if (pt_cmpR op_lt (pv 2) (pe_callB call_len_seq (by rfl) ml PySem.boot_len (pa_cons (pe_ix ix_list (pv 0) pe_int (fun _ _ => rfl)) pa_nil)) (nomark _))
            (pss_one (ps_set (i := 3) scTake.nd rfl (Or.inl rfl) (pe_ix ix_list (pe_ix ix_list (pv 0) pe_int (fun _ _ => rfl)) (pv 2) (fun _ _ => rfl))))
            (pss_one (ps_if (pt_cmpR op_gt (pe_callB call_len_seq (by rfl) ml PySem.boot_len (pa_cons (pe_ix ix_list (pv 0) pe_int (fun _ _ => rfl)) pa_nil)) pe_int (nomark _))
              (pss_one (ps_set (i := 3) scTake.nd rfl (Or.inl rfl) (pe_op op_mod
                (pe_ix ix_list (pe_ix ix_list (pv 0) pe_int (fun _ _ => rfl)) (pe_op op_mod (pe_op op_add (pe_op op_mul (pv 2) pe_int) pe_int) (pe_callB call_len_seq (by rfl) ml PySem.boot_len (pa_cons (pe_ix ix_list (pv 0) pe_int (fun _ _ => rfl)) pa_nil))) (fun _ _ => rfl))
                (pe_op op_add (pe_op op_pow pe_int pe_int) (pv 2))))) pss_nil)))
        (pss_cons (ps_asg (pe_op op_add (pv 2) pe_int) (pg_sub (pv 0) pe_int set_list))
        (pss_one (ps_asg (pe_call GS hr (by rfl) gS FS.kp bS .nil pass0 (pa_cons (pv 3) (pa_cons (pv 2) pa_nil))) (pg_sub (pv 0) pe_int set_list)))))))
        pss_nil)
      (pss_cons (ps_set (i := 4) scTake.nd rfl (Or.inl rfl) (pe_op op_mod (pe_ix ix_list (pv 0) pe_int (fun _ _ => rfl)) (pv 1)))
      (pss_cons (ps_asg (pe_op op_fdivW (pe_ix ix_list (pv 0) pe_int (fun _ _ => rfl)) (pv 1)) (pg_sub (pv 0) pe_int set_list))
      (pss_one (ps_ret (pv 4))))), ?_⟩
    -- what holds behind the if
    refine ⟨fun σ H2 => ∃ (x2 x3 : Option V) (a2 r2 : Int), σ = [some (.ref p), some (.int n), x2, x3, none] ∧ H2 p = some (.lst [.ref c, .int a2, .int r2]) ∧ H2 c = some (.lst (cells.map V.int)) ∧ 0 ≤ a2 ∧ a2 ≤ (t : Int) + 1 ∧ But p H H2, ?_, ?_⟩
    · refine ⟨_, rfl, p, _, 2, .int r1, rfl, rfl, SqL.of hp, atI_nat (j := 2) rfl, _, rfl, _, _, rfl, rfl, _, rfl, ite2 (fun _ => ?_) (fun _ => ?_)⟩
      · refine ⟨_, rfl, p, _, 1, .int a1, rfl, rfl, SqL.of hp, atI_nat (j := 1) rfl, ?_⟩
        -- at, cell
        refine ⟨fun σ H2 => ∃ z : Int, σ = [some (.ref p), some (.int n), some (.int a1), some (.int z), none] ∧ H2 = H, ?_, ?_⟩
        · refine ⟨_, rfl, _, rfl, p, _, 0, .ref c, rfl, rfl, SqL.of hp, atI_nat (j := 0) rfl, c, _, rfl, .inl (SqL.of hc), _, _, rfl, rfl, _, rfl, ite2 (fun e => ?_) (fun e => ?_)⟩
          · have e1 : a1 < ((cells.map V.int).length : Int) := of_decide_eq_true e
            rw [mapInt_len] at e1
            obtain ⟨v, hv⟩ := nat_at a10 e1
            exact ⟨_, rfl, p, _, 0, .ref c, rfl, rfl, SqL.of hp, atI_nat (j := 0) rfl, _, rfl, c, _, a1, .int v, rfl, rfl, SqL.of hc, hv, v, rfl, rfl⟩
          · refine ⟨_, rfl, p, _, 0, .ref c, rfl, rfl, SqL.of hp, atI_nat (j := 0) rfl, c, _, rfl, .inl (SqL.of hc), _, _, rfl, rfl, _, rfl, ite2 (fun e2 => ?_) (fun e2 => ?_)⟩
            · have e3 : 0 < ((cells.map V.int).length : Int) := of_decide_eq_true e2
              have e4 := e3
              rw [mapInt_len] at e4
              obtain ⟨v, hv⟩ := nat_at (Int.emod_nonneg (a1 * 5 + 3) (by omega : (cells.length : Int) ≠ 0)) (Int.emod_lt_of_pos (a1 * 5 + 3) e4)
              rw [← mapInt_len] at hv
              have h17 : (0 : Int) < 10 ^ (17 : Int).toNat + a1 := by
                have : (0 : Int) < 10 ^ (17 : Int).toNat := by decide
                omega
              exact ⟨_, rfl, p, _, 0, .ref c, rfl, rfl, SqL.of hp, atI_nat (j := 0) rfl, _, rfl, _, _, rfl, rfl, .inl ⟨by omega, by omega⟩, _, _, rfl, rfl, _, rfl, p, _, 0, .ref c, rfl, rfl, SqL.of hp, atI_nat (j := 0) rfl, c, _, rfl, .inl (SqL.of hc), _, _, rfl, rfl, e3,
                c, _, _, .int v, rfl, rfl, SqL.of hc, hv, _, _, rfl, rfl, ⟨by decide, by decide, by decide⟩, _, rfl, _, _, rfl, rfl, _, _, rfl, rfl, h17, _, rfl, rfl⟩
            · exact ⟨0, rfl, rfl⟩
        · rintro σ H2 ⟨z, rfl, rfl⟩
          refine ⟨_, rfl, _, _, rfl, rfl, _, rfl, p, _, _, 1, rfl, rfl, hp, rfl, ?_⟩
          refine ⟨_, rfl, _, rfl, z, a1, rfl, a10, by omega, fun r H3 e3 => ?_⟩
          have hp3 : H3 p = some (.lst [.ref c, .int (a1 + 1), .int r1]) := e3 _ _ upd_same
          refine ⟨_, rfl, p, _, _, 2, rfl, rfl, hp3, rfl, ?_⟩
          refine ⟨_, _, a1 + 1, r, rfl, upd_same, ?_, by omega, by omega, (But.upd.trans (But.of e3)).trans But.upd⟩
          rw [upd_ne ncp]
          exact e3 _ _ (by rw [upd_ne ncp]; exact hc)
      · exact ⟨none, none, a1, r1, rfl, hp, hc, a10, by omega, fun b o _ e => e⟩
    · rintro σ H2 ⟨x2, x3, a2, r2, rfl, hp2, hc2, a20, a21, bt⟩
      refine ⟨_, rfl, p, _, 2, .int r2, rfl, rfl, SqL.of hp2, atI_nat (j := 2) rfl, _, rfl, _, _, rfl, rfl, n0, ?_⟩
      refine ⟨_, rfl, p, _, 2, .int r2, rfl, rfl, SqL.of hp2, atI_nat (j := 2) rfl, _, rfl, _, _, rfl, rfl, wide_div n0 nb (by decide) (by decide), ?_⟩
      refine ⟨_, rfl, p, _, _, 2, rfl, rfl, hp2, rfl, ?_⟩
      exact ⟨_, rfl, k _ _ (Int.emod_nonneg _ (by omega)) (Int.emod_lt_of_pos _ n0) (bt.trans But.upd) ⟨c, cells, a2, r2 / n, upd_same, by rw [upd_ne ncp]; exact hc2, a20, by omega⟩⟩

theorem scOpen : FnScope ["script", "cells", "k", "cell"] ["script"] (defScope sOpen) := ⟨rfl, rfl, rfl, by decide +kernel, rfl, by decide +kernel, by decide +kernel⟩
theorem cut_ints (ns : List Int) (lo hi : Option Int) : ∃ ms : List Int, cutV (ns.map V.int) lo hi = ms.map V.int ∧ ms = (ns.drop (HT.sIx ns.length 0 lo)).take (HT.sIx ns.length ns.length hi - HT.sIx ns.length 0 lo) := by
  refine ⟨_, ?_, rfl⟩
  unfold cutV
  rw [List.length_map, List.map_take, List.map_drop]
theorem sIx_nat (n : Nat) (d : Nat) (k : Nat) : HT.sIx n d (some (k : Int)) = min k n := by
  unfold HT.sIx
  simp only
  rw [if_neg (by omega)]
  omega
theorem cut12 (ns : List Int) : ∃ ms : List Int, cutV (ns.map V.int) none (some 12) = ms.map V.int ∧ ms.length = min 12 ns.length := by
  obtain ⟨ms, h1, h2⟩ := cut_ints ns none (some 12)
  refine ⟨ms, h1, ?_⟩
  rw [h2, List.length_take, List.length_drop]
  have a1 : HT.sIx ns.length 0 none = 0 := rfl
  have a2 : HT.sIx ns.length ns.length (some 12) = min 12 ns.length := sIx_nat _ _ 12
  rw [a1, a2]; omega
theorem cut63 (ns : List Int) : ∃ ms : List Int, cutV (ns.map V.int) (some 12) (some 63) = ms.map V.int ∧ ms.length ≤ ns.length - 12 := by
  obtain ⟨ms, h1, h2⟩ := cut_ints ns (some 12) (some 63)
  refine ⟨ms, h1, ?_⟩
  rw [h2, List.length_take, List.length_drop]
  have a1 : HT.sIx ns.length 0 (some 12) = min 12 ns.length := sIx_nat _ _ 12
  have a2 : HT.sIx ns.length ns.length (some 63) = min 63 ns.length := sIx_nat _ _ 63
  rw [a1, a2]; omega
theorem set_ints (ns : List Int) (j : Nat) (v : Int) : (ns.map V.int).set j (.int v) = (ns.set j v).map V.int := by rw [List.map_set]
theorem ok_open {f : Addr} {fd : FuncData} (F : Fun K "_law_open" "_law_open" sOpen f fd) (m1 : mg "list" = none) (m2 : mg "enumerate" = none) : FnOk P w K mg base CX0 1 f fd ["script"] (spOpen K) := by
  refine F.ok scOpen (fun vs H Q E h => ?_) (fun cdv A outer s H vs Q E hr h => ?_)
  · obtain ⟨a, ns, rfl, _⟩ := h
    rfl
  · obtain ⟨a, ns, rfl, hS, hl, k⟩ := h
    refine ⟨_, pss_cons (ps_set (i := 1) scOpen.nd rfl (Or.inl rfl) (pe_callTy call_list_of (by rfl) m1 boot_list (pa_cons (pe_slice sl_list (pv 0) po_none (po_some pe_int)) pa_nil)))
      (pss_cons (ps_for PassesOwn.never rfl (pi_enum (by rfl) m2 (pa_cons (pe_slice sl_list (pv 0) (po_some pe_int) (po_some pe_int)) pa_nil))
        (pg_tup (by rfl) (pgs_cons (pg_name (i := 2) scOpen.nd rfl (Or.inl rfl)) (pgs_cons (pg_name (i := 3) scOpen.nd rfl (Or.inl rfl)) pgs_nil)))
        (pss_one (ps_asg (pe_op op_add (pe_ix ix_list (pv 1) (pe_op op_mod (pv 2) pe_int) (fun _ _ => rfl)) (pv 3)) (pg_sub (pv 1) (pe_op op_mod (pv 2) pe_int) set_list))))
      (pss_one (ps_ret (pe_lst (pa_cons (pv 1) (pa_cons pe_int (pa_cons pe_int pa_nil))))))), ?_⟩
    obtain ⟨ms, e1, l1⟩ := cut12 ns
    obtain ⟨us, e2, l2⟩ := cut63 ns
    refine ⟨_, rfl, 12, rfl, a, _, rfl, hS, fun p1 n1 => ?_⟩
    rw [e1]
    refine ⟨p1, _, rfl, .inl (SqL.of upd_same), fun c nc => ?_⟩
    have s1 : Same H (upd (upd H p1 (.lst (ms.map V.int))) c (.lst (ms.map V.int))) := (Same.upd n1).trans (Same.upd nc)
    refine ⟨_, rfl, 12, rfl, 63, rfl, a, _, rfl, s1.seq hS, fun p2 n2 => ?_⟩
    rw [e2]
    have nc2 : c ≠ p2 := ne_of_none upd_same n2
    refine ⟨p2, us.map V.int, rfl, SqL.of upd_same, for_it (walk_enum (K := K) (a := p2) (xs := us.map V.int)) (fun i σ H2 => ∃ (x2 x3 : Option V) (cs : List Int), σ = [some (.ref a), some (.ref c), x2, x3] ∧ H2 c = some (.lst (cs.map V.int)) ∧ cs.length = ms.length ∧
        (∀ b o, b ≠ c → upd (upd (upd H p1 (.lst (ms.map V.int))) c (.lst (ms.map V.int))) p2 (.lst (us.map V.int)) b = some o → H2 b = some o)) ?_ ?_ ?_ ?_⟩
    · exact ⟨none, none, ms, rfl, by rw [upd_ne nc2]; exact upd_same, rfl, fun _ _ _ e => e⟩
    · rintro i σ H2 hi ⟨x2, x3, cs, rfl, hc, hl, hk⟩
      exact SqL.of (hk _ _ nc2.symm upd_same)
    · rintro i x σ H2 H3 hi ⟨x2, x3, cs, rfl, hc, hlc, hk⟩ ⟨T, y, z, rfl, hT, rfl, ey, ez⟩
      obtain rfl : V.int ((i : Nat) : Int) = y := Option.some.inj ey
      have hi' : i < us.length := by rw [List.length_map] at hi; exact hi
      obtain ⟨v, rfl⟩ : ∃ v, z = V.int v := by
        have ez' : (us.map V.int)[i]? = some z := ez
        rw [List.getElem?_map, List.getElem?_eq_getElem hi'] at ez'
        exact ⟨us[i], (Option.some.inj ez').symm⟩
      have m12 : ms.length = 12 := by omega
      have hcT : c ≠ T := ne_of_none hc hT
      have b0 := Int.emod_nonneg ((i : Nat) : Int) (show (12 : Int) ≠ 0 by decide)
      have b1 := Int.emod_lt_of_pos ((i : Nat) : Int) (show (0 : Int) < 12 by decide)
      obtain ⟨u, hu⟩ := nat_at (xs := cs) b0 (by omega)
      refine ⟨T, _, rfl, SqT.of upd_same, rfl, _, _, rfl, _, _, rfl, rfl, ?_⟩
      refine ⟨_, rfl, _, rfl, _, _, rfl, rfl, (by show (0 : Int) < 12; decide), c, _, _, _, rfl, rfl, SqL.of (by rw [upd_ne hcT]; exact hc), hu, _, rfl, _, _, rfl, rfl, ?_⟩
      have hj : ixN (cs.map V.int).length (((i : Nat) : Int) % 12) = some (((i : Nat) : Int) % 12).toNat := by
        unfold ixN
        rw [List.length_map, if_pos b0, if_pos (by omega)]
      refine ⟨_, rfl, _, rfl, _, _, rfl, rfl, (by show (0 : Int) < 12; decide), c, _, _, _, rfl, rfl, (by rw [upd_ne hcT]; exact hc), hj, ?_⟩
      refine ⟨_, _, cs.set (((i : Nat) : Int) % 12).toNat (u + v), rfl, by rw [upd_same, set_ints], by rw [List.length_set]; exact hlc, fun b o hb e => ?_⟩
      rw [upd_ne hb, upd_ne (ne_of_none (hk b o hb e) hT)]
      exact hk b o hb e
    · rintro σ H2 ⟨x2, x3, cs, rfl, hc, hlc, hk⟩
      refine ⟨_, rfl, (by show 3 ≤ sizeLine; decide), fun p np => ?_⟩
      have sH : Same H H2 := fun b o e => hk b o (ne_of_none (Same.upd n1 b o e) nc) ((s1.trans (Same.upd n2)) b o e)
      have ncp : c ≠ p := ne_of_none hc np
      exact k p _ (sH.free np) (sH.trans (Same.upd np)) ⟨c, cs, 0, 0, upd_same, by rw [upd_ne ncp]; exact hc, by decide, by decide⟩
end
end My

namespace My
open PySem PySem.Spec PyProof.Rows L2
abbrev sWhole : Stmt := topS 2
abbrev sIsF : Stmt := topS 4
abbrev sRed : Stmt := topS 9
abbrev sLIsF : Stmt := topS 11
abbrev sOdd : Stmt := topS 12
/-! ### types of data -/
def tyN : PyData → String
  | .none => "NoneType"
  | .bool _ => "bool"
  | .int _ => "int"
  | .str _ => "str"
  | .list _ => "list"
  | .tuple _ => "tuple"
  | .dict _ => "dict"
theorem Dq.ty {K : PySem.W.Frag} {G H : Hp} (e : Same G H) : ∀ {v : V} {d : PyData}, Dq K G v d → TyX K H v (.type (tyN d))
  | _, _, .non => .base .non
  | _, _, .bl b => .base (.bl b)
  | _, _, .int i => .base (.int i)
  | _, _, .str x => .base (.str x)
  | _, _, .lst h _ => .base (.lst (e _ _ h))
  | _, _, .tup h _ => .base (.tup (e _ _ h))
  | _, _, .dct h _ _ => .base (.dK (e _ _ h))
def isT (T : String) (d : PyData) : Bool := tyN d == T
theorem kit_int : ∀ d : PyData, kitB (tyN d) "int" = some (isT "int" d || isT "bool" d)
  | .none => by decide +kernel
  | .bool _ => (by decide +kernel : kitB "bool" "int" = some true)
  | .int _ => (by decide +kernel : kitB "int" "int" = some true)
  | .str _ => (by decide +kernel : kitB "str" "int" = some false)
  | .list _ => (by decide +kernel : kitB "list" "int" = some false)
  | .tuple _ => (by decide +kernel : kitB "tuple" "int" = some false)
  | .dict _ => (by decide +kernel : kitB "dict" "int" = some false)
theorem kit_bool : ∀ d : PyData, kitB (tyN d) "bool" = some (isT "bool" d)
  | .none => by decide +kernel
  | .bool _ => (by decide +kernel : kitB "bool" "bool" = some true)
  | .int _ => (by decide +kernel : kitB "int" "bool" = some false)
  | .str _ => (by decide +kernel : kitB "str" "bool" = some false)
  | .list _ => (by decide +kernel : kitB "list" "bool" = some false)
  | .tuple _ => (by decide +kernel : kitB "tuple" "bool" = some false)
  | .dict _ => (by decide +kernel : kitB "dict" "bool" = some false)
theorem kit_tuple : ∀ d : PyData, kitB (tyN d) "tuple" = some (isT "tuple" d)
  | .none => by decide +kernel
  | .bool _ => (by decide +kernel : kitB "bool" "tuple" = some false)
  | .int _ => (by decide +kernel : kitB "int" "tuple" = some false)
  | .str _ => (by decide +kernel : kitB "str" "tuple" = some false)
  | .list _ => (by decide +kernel : kitB "list" "tuple" = some false)
  | .tuple _ => (by decide +kernel : kitB "tuple" "tuple" = some true)
  | .dict _ => (by decide +kernel : kitB "dict" "tuple" = some false)
theorem isi_read {K : PySem.W.Frag} {G H : Hp} {v : V} {d : PyData} {T : String} {b : Bool} {Q : VK} (e : Same G H) (h : Dq K G v d) (hk : kitB (tyN d) T = some b) (q : Q (.bl b) H) : rIsi K [v, .ty T] H Q :=
  ⟨v, .ty T, .type (tyN d), .type T, b, rfl, .ty T, h.ty e, kit_ty hk, q⟩
def isW (d : PyData) : Bool := isT "int" d
/-- a truth: a fraction -/
def isFr : PyData → Bool
  | .tuple [.int t, .int b] => decide (0 ≤ t ∧ t ≤ b ∧ Nat.gcd t.natAbs b.natAbs = 1)
  | _ => false
theorem isW_int {d : PyData} (h : isW d = true) : ∃ i, d = .int i := by
  cases d with
  | int i => exact ⟨i, rfl⟩
  | none => exact absurd h (by decide)
  | bool _ => exact absurd (show ("bool" == "int") = true from h) (by decide)
  | str _ => exact absurd (show ("str" == "int") = true from h) (by decide)
  | list _ => exact absurd (show ("list" == "int") = true from h) (by decide)
  | tuple _ => exact absurd (show ("tuple" == "int") = true from h) (by decide)
  | dict _ => exact absurd (show ("dict" == "int") = true from h) (by decide)
theorem isTup_of {d : PyData} (h : isT "tuple" d = true) : ∃ ds, d = .tuple ds := by
  cases d with
  | tuple ds => exact ⟨ds, rfl⟩
  | none => exact absurd h (by decide)
  | bool _ => exact absurd (show ("bool" == "tuple") = true from h) (by decide)
  | str _ => exact absurd (show ("str" == "tuple") = true from h) (by decide)
  | list _ => exact absurd (show ("list" == "tuple") = true from h) (by decide)
  | int _ => exact absurd (show ("int" == "tuple") = true from h) (by decide)
  | dict _ => exact absurd (show ("dict" == "tuple") = true from h) (by decide)
theorem notTup {d : PyData} (h : isT "tuple" d = false) : isFr d = false := by
  cases d with
  | tuple ds => exact absurd (show ("tuple" == "tuple") = false from h) (by decide)
  | _ => rfl
theorem two_of {K : PySem.W.Frag} {G : Hp} {xs : List V} {ds : List PyData} (ha : DqAll K G xs ds) (hl : xs.length = 2) : ∃ x y dx dy, xs = [x, y] ∧ ds = [dx, dy] ∧ Dq K G x dx ∧ Dq K G y dy := by
  cases ha with
  | nil => cases hl
  | cons h t =>
    cases t with
    | nil => cases hl
    | cons h2 t2 =>
      cases t2 with
      | nil => exact ⟨_, _, _, _, rfl, rfl, h, h2⟩
      | cons h3 t3 =>
        rw [List.length_cons, List.length_cons, List.length_cons] at hl
        omega
theorem fr_len {ds : List PyData} (h : ds.length ≠ 2) : isFr (.tuple ds) = false := by
  match ds, h with
  | [], _ => rfl
  | [x], _ => cases x <;> rfl
  | [x, y], h => exact absurd rfl h
  | x :: y :: z :: r, _ => cases x <;> cases y <;> rfl
theorem fr_x {dx dy : PyData} (h : isW dx = false) : isFr (.tuple [dx, dy]) = false := by
  cases dx with
  | int i => exact absurd (show ("int" == "int") = false from h) (by decide)
  | _ => rfl
theorem fr_y {i : Int} {dy : PyData} (h : isW dy = false) : isFr (.tuple [.int i, dy]) = false := by
  cases dy with
  | int i => exact absurd (show ("int" == "int") = false from h) (by decide)
  | _ => rfl
/-! ### promises -/
def spWhole (K : PySem.W.Frag) : Sp := fun vs H Q _ => ∃ (v : V) (d : PyData) (G : Hp), vs = [v] ∧ Same G H ∧ Dq K G v d ∧ Q (.bl (isW d)) H
def spIsF (K : PySem.W.Frag) : Sp := fun vs H Q _ => ∃ (v : V) (d : PyData) (G : Hp), vs = [v] ∧ Same G H ∧ Dq K G v d ∧ Q (.bl (isFr d)) H
structure Txt (mg : Str → Option Value) : Prop where
  isi : mg "isinstance" = none
  int : mg "int" = none
  bool : mg "bool" = none
  tuple : mg "tuple" = none
  len : mg "len" = none
section
variable {P : Program} {w : World} {K : PySem.W.Frag} {mg : Str → Option Value} {base : Heap}
theorem scWhole : FnScope ["thing"] ["thing"] (defScope sWhole) := ⟨rfl, rfl, rfl, by decide +kernel, rfl, by decide +kernel, by decide +kernel⟩
theorem ok_whole {f : Addr} {fd : FuncData} (F : Fun K "is_whole" "is_whole" sWhole f fd) (T : Txt mg) : FnOk P w K mg base CX0 1 f fd ["thing"] (spWhole K) := by
  refine F.ok scWhole (fun vs H Q E h => ?_) (fun cdv A outer s H vs Q E hr h => ?_)
  · obtain ⟨v, d, G, rfl, _⟩ := h
    rfl
  · obtain ⟨v, d, G, rfl, e, h, k⟩ := h
    refine ⟨_, pss_one (ps_ret (pe_and (pe_callB call_isi (by rfl) T.isi boot_isinstance (pa_cons (pv 0) (pa_cons (pe_bltn (v := .ty "int") (by rfl) T.int boot_int rfl) pa_nil)))
      (pe_one (pe_not (pe_callB call_isi (by rfl) T.isi boot_isinstance (pa_cons (pv 0) (pa_cons (pe_bltn (v := .ty "bool") (by rfl) T.bool boot_bool rfl) pa_nil))))))), ?_⟩
    refine ⟨_, rfl, _, _, _, _, _, rfl, .ty _, h.ty e, kit_ty (kit_int d), _, rfl, ?_⟩
    cases d with
    | int i => exact iteT ⟨_, rfl, _, _, _, _, _, rfl, .ty _, h.ty e, kit_ty (kit_bool _), _, rfl, k⟩
    | bool b => exact iteT ⟨_, rfl, _, _, _, _, _, rfl, .ty _, h.ty e, kit_ty (kit_bool _), _, rfl, k⟩
    | none => exact iteF k
    | str _ => exact iteF k
    | list _ => exact iteF k
    | tuple _ => exact iteF k
    | dict _ => exact iteF k
theorem scIsF : FnScope ["thing", "top", "bottom"] ["thing"] (defScope sIsF) := ⟨rfl, rfl, rfl, by decide +kernel, rfl, by decide +kernel, by decide +kernel⟩
theorem ok_isF {f fW : Addr} {fd fdW : FuncData} (F : Fun K "is_fraction" "is_fraction" sIsF f fd) (T : Txt mg) (FW : Fun K "is_whole" "is_whole" sWhole fW fdW) (bW : Binds K fdW ["thing"] []) (gW : mg "is_whole" = some (.ref fW))
    (gG : mg "gcd" = some (.builtin "math.gcd")) : FnOk P w K mg base CX0 2 f fd ["thing"] (spIsF K) := by
  have GW : FnOk P w K mg base CX0 1 fW fdW ["thing"] (spWhole K) := ok_whole FW T
  refine F.ok scIsF (fun vs H Q E h => ?_) (fun cdv A outer s H vs Q E hr h => ?_)
  · obtain ⟨v, d, G, rfl, _⟩ := h
    rfl
  · obtain ⟨v, d, G, rfl, e, h, k⟩ := h
    refine ⟨_, pss_cons (ps_if (PW.pt (pw_or (pt_not (pt_val (pe_callB call_isi (by rfl) T.isi boot_isinstance (pa_cons (pv 0) (pa_cons (pe_bltn (v := .ty "tuple") (by rfl) T.tuple boot_tuple rfl) pa_nil)))))
        (pw_or1 (pt_cmpR op_ne (pe_callB call_len_seq (by rfl) T.len PySem.boot_len (pa_cons (pv 0) pa_nil)) pe_int (nomark _))))) (pss_one (ps_ret pe_bl)) pss_nil)
      (pss_cons (ps_asg (pv 0) (pg_tup (by rfl) (pgs_cons (pg_name (i := 1) scIsF.nd rfl (Or.inl rfl)) (pgs_cons (pg_name (i := 2) scIsF.nd rfl (Or.inl rfl)) pgs_nil))))
      (pss_cons (ps_if (PW.pt (pw_or (pt_not (pt_val (pe_call GW hr (by rfl) gW FW.kp bW .nil pass0 (pa_cons (pv 1) pa_nil)))) (pw_or1 (pt_not (pt_val (pe_call GW hr (by rfl) gW FW.kp bW .nil pass0 (pa_cons (pv 2) pa_nil))))))) (pss_one (ps_ret pe_bl)) pss_nil)
      (pss_one (ps_ret (pe_and (pe_chain op_le op_le pe_int (pv 1) (pv 2)) (pe_one (pe_cmpR op_eq (pe_callBfun cr_gcd (by rfl) gG (pa_cons (pv 1) (pa_cons (pv 2) pa_nil))) pe_int (nomark _)))))))), ?_⟩
    refine ⟨_, rfl, _, _, _, _, _, rfl, .ty _, h.ty e, kit_ty (kit_tuple d), _, rfl, ?_⟩
    cases ht : isT "tuple" d with
    | false => exact iteT (iteT (by rw [notTup ht] at k; exact k))
    | true =>
      obtain ⟨ds, rfl⟩ := isTup_of ht
      cases h with
      | tup hs ha =>
        rename_i a xs
        have hS : SqT K H a xs := SqT.of (e _ _ hs)
        refine iteF ⟨_, rfl, a, xs, rfl, .inr hS, rfl, _, rfl, ite2 (fun hn => ?_) (fun hn => ?_)⟩
        · have hl : ds.length ≠ 2 := fun z => by
            rw [ha.len, z] at hn
            exact absurd hn (by decide)
          rw [fr_len hl] at k
          exact k
        · have hl : xs.length = 2 := by
            have : ¬ ((!decide (V.int (xs.length : Int) = V.int 2)) = true) := hn
            by_cases q : V.int (xs.length : Int) = V.int 2
            · have := V.int.inj q
              omega
            · exact absurd (by rw [decide_eq_false q]; rfl) this
          obtain ⟨x, y, dx, dy, rfl, rfl, hx, hy⟩ := two_of ha hl
          · refine ⟨_, rfl, a, _, rfl, hS, rfl, _, _, rfl, _, _, rfl, rfl, ?_⟩
            refine ⟨_, rfl, x, dx, G, rfl, e, hx, _, rfl, ?_⟩
            cases h1 : isW dx with
            | false =>
              refine iteT (iteT ?_)
              rw [fr_x h1] at k
              exact k
            | true =>
              refine iteF ⟨_, rfl, y, dy, G, rfl, e, hy, _, rfl, ?_⟩
              obtain ⟨i, rfl⟩ := isW_int h1
              cases h2 : isW dy with
              | false =>
                refine iteT ?_
                rw [fr_y h2] at k
                exact k
              | true =>
                obtain ⟨j, rfl⟩ := isW_int h2
                cases hx
                cases hy
                refine iteF ⟨_, rfl, _, _, rfl, rfl, _, rfl, ?_⟩
                have kk : ∀ c : Bool, decide (0 ≤ i ∧ i ≤ j ∧ Nat.gcd i.natAbs j.natAbs = 1) = c → Q (.bl c) H := fun c z => by
                  have z' : isFr (.tuple [.int i, .int j]) = c := z
                  rw [← z']; exact k
                refine ite2 (fun g1 => ⟨_, rfl, _, _, rfl, rfl, _, rfl, ?_⟩) (fun g1 => ⟨_, rfl, iteF (kk false ?_)⟩)
                · have g1' : 0 ≤ i := of_decide_eq_true g1
                  refine ite2 (fun g2 => ⟨_, rfl, _, rfl, _, _, rfl, rfl, ?_⟩) (fun g2 => kk false ?_)
                  · have g2' : i ≤ j := of_decide_eq_true g2
                    refine kk _ ?_
                    by_cases g3 : Nat.gcd i.natAbs j.natAbs = 1
                    · rw [decide_eq_true (⟨g1', g2', g3⟩ : _ ∧ _ ∧ _), decide_eq_true]
                      rw [g3]; rfl
                    · rw [decide_eq_false (fun z : _ ∧ _ ∧ _ => g3 z.2.2), decide_eq_false]
                      intro z
                      have := V.int.inj z
                      omega
                  · refine decide_eq_false fun z => ?_
                    exact g2 (decide_eq_true z.2.1)
                · refine decide_eq_false fun z => ?_
                  exact g1 (decide_eq_true z.1)
end
end My

namespace My
open PySem PySem.Spec PyProof.Rows L2
/-! ### lowest terms -/
def gN (a b : Int) : Int := ((Nat.gcd b.natAbs a.natAbs : Nat) : Int)
def spRed : Sp := fun vs H Q _ => ∃ a b : Int, vs = [.int a, .int b] ∧ 0 ≤ a ∧ 0 < b ∧ b.natAbs < 2 ^ 8000 ∧ ∀ q, H q = none → Q (.ref q) (upd H q (.tup [.int (a / gN a b), .int (b / gN a b)]))
theorem gcd_turn (x y : Nat) : Nat.gcd y (x % y) = Nat.gcd x y := by
  rw [Nat.gcd_comm x y, Nat.gcd_rec y x, Nat.gcd_comm]
theorem ifF {c : Bool} {A B : Prop} (h : c = false) (q : B) : if c = true then A else B := by rw [h]; exact iteF q
theorem ifT {c : Bool} {A B : Prop} (h : c = true) (q : A) : if c = true then A else B := by rw [h]; exact iteT q
section
variable {P : Program} {w : World} {K : PySem.W.Frag} {mg : Str → Option Value} {base : Heap}
theorem scRed : FnScope ["top", "whole", "one", "other"] ["top", "whole"] (defScope sRed) := ⟨rfl, rfl, rfl, by decide +kernel, rfl, by decide +kernel, by decide +kernel⟩
theorem ok_red {f : Addr} {fd : FuncData} (F : Fun K "_law_reduced" "_law_reduced" sRed f fd) : FnOk P w K mg base CX0 1 f fd ["top", "whole"] spRed := by
  refine F.ok scRed (fun vs H Q E h => ?_) (fun cdv A outer s H vs Q E hr h => ?_)
  · obtain ⟨a, b, rfl, _⟩ := h
    rfl
  · obtain ⟨a, b, rfl, a0, b0, bb, k⟩ := h
    refine ⟨_, pss_cons (ps_par (i := 2) (j := 3) (by rfl) scRed.nd rfl rfl (by decide) rfl rfl (pa_cons (pv 1) (pa_cons (pv 0) pa_nil)) (by rfl))
      (pss_cons (ps_while PassesOwn.never (pt_cmpR op_ne (pv 3) pe_int (nomark _))
        (pss_one (ps_par (i := 2) (j := 3) (by rfl) scRed.nd rfl rfl (by decide) rfl rfl (pa_cons (pv 3) (pa_cons (pe_op op_mod (pv 2) (pv 3)) pa_nil)) (by rfl))))
      (pss_one (ps_ret (pe_tup (pa_cons (pe_op op_fdivW (pv 0) (pv 2)) (pa_cons (pe_op op_fdivW (pv 1) (pv 2)) pa_nil)))))), ?_⟩
    refine ⟨_, rfl, _, rfl, _, _, rfl, ?_⟩
    refine while_by (fun σ H2 => ∃ x y : Nat, σ = [some (.int a), some (.int b), some (.int (x : Int)), some (.int (y : Int))] ∧ H2 = H ∧ Nat.gcd x y = Nat.gcd b.natAbs a.natAbs) (fun σ _ => match σ with | [_, _, _, some (.int y)] => y.natAbs | _ => 0) ?_ ?_ ?_
    · refine ⟨b.natAbs, a.natAbs, ?_, rfl, rfl⟩
      have e1 : ((b.natAbs : Nat) : Int) = b := by omega
      have e2 : ((a.natAbs : Nat) : Int) = a := by omega
      rw [e1, e2]; rfl
    · rintro σ H2 ⟨x, y, rfl, rfl, hg⟩
      refine ⟨_, rfl, rfl, _, rfl, ?_⟩
      by_cases hy : y = 0
      · have e1 : (!decide (V.int (y : Int) = V.int 0)) = false := by rw [hy]; rfl
        refine ifF e1 ?_
        subst hy
        have hx : x = Nat.gcd b.natAbs a.natAbs := by rw [← hg, Nat.gcd_zero_right]
        have g0 : 0 < x := by rw [hx]; exact Nat.gcd_pos_of_pos_left _ (by omega)
        have gb : x ≤ b.natAbs := by rw [hx]; exact Nat.le_of_dvd (by omega) (Nat.gcd_dvd_left _ _)
        have wd : ∀ z : Int, CDivW z (x : Int) := fun z => wide_div (b := 8000) (by omega) (Nat.lt_of_le_of_lt gb bb) (by decide) (by decide)
        refine ⟨_, rfl, _, rfl, _, _, rfl, rfl, wd _, _, rfl, _, rfl, _, _, rfl, rfl, wd _, (by show 2 ≤ sizeLine; decide), fun q hq => ?_⟩
        have e : gN a b = (x : Int) := by unfold gN; rw [hx]
        have kq := k q hq
        rw [e] at kq
        exact kq
      · have e1 : (!decide (V.int (y : Int) = V.int 0)) = true := by
          rw [decide_eq_false]
          · rfl
          · intro z
            have := V.int.inj z
            omega
        refine ifT e1 ?_
        have y0 : (0 : Int) < (y : Int) := by omega
        refine ⟨_, rfl, _, rfl, _, rfl, _, _, rfl, rfl, y0, _, _, rfl, ⟨y, x % y, ?_, rfl, by rw [gcd_turn, hg]⟩, ?_⟩
        · rw [Int.natCast_emod]; rfl
        · show ((x : Int) % (y : Int)).natAbs < ((y : Int)).natAbs
          have := Nat.mod_lt x (Nat.pos_of_ne_zero hy)
          omega
    · intro σ H2 Q1 Q2 m h
      obtain ⟨v, e, h1, b1, e2, h2⟩ := h
      exact ⟨v, e, h1, b1, e2, m _ _ h2⟩
/-! ### the law's own look -/
def spLIsF (K : PySem.W.Frag) : Sp := fun vs H Q _ => ∃ (v : V) (d : PyData) (G : Hp), vs = [v] ∧ Same G H ∧ Dq K G v d ∧ (∀ t b : Int, d = .tuple [.int t, .int b] → b.natAbs < 2 ^ 8000) ∧ ∀ H', Same H H' → Q (.bl (isFr d)) H'
theorem scLIsF : FnScope ["thing", "part", "top", "whole"] ["thing"] (defScope sLIsF) := ⟨rfl, rfl, rfl, by decide +kernel, rfl, by decide +kernel, by decide +kernel⟩
theorem eqv_pair (a b c d : Int) : PyData.eqv (.tuple [.int a, .int b]) (.tuple [.int c, .int d]) = decide (a = c ∧ b = d) := by
  simp only [PyData.eqv, PyData.eqvAll, Bool.and_true]
  by_cases h1 : a = c <;> by_cases h2 : b = d <;> simp [h1, h2]
theorem red_one {t b : Int} (t0 : 0 ≤ t) (b0 : 0 < b) : (t / gN t b = t ∧ b / gN t b = b) ↔ Nat.gcd t.natAbs b.natAbs = 1 := by
  have hg : gN t b = ((Nat.gcd t.natAbs b.natAbs : Nat) : Int) := by unfold gN; rw [Nat.gcd_comm]
  rw [hg]
  have gp : 0 < Nat.gcd t.natAbs b.natAbs := Nat.gcd_pos_of_pos_right _ (by omega)
  constructor
  · rintro ⟨_, h2⟩
    obtain ⟨n, rfl⟩ : ∃ n : Nat, b = (n : Int) := ⟨b.toNat, by omega⟩
    have h3 : n / Nat.gcd t.natAbs ((n : Int)).natAbs = n := by
      have : ((n / Nat.gcd t.natAbs ((n : Int)).natAbs : Nat) : Int) = (n : Int) := by rw [Int.natCast_ediv]; exact h2
      omega
    rcases Nat.lt_or_ge 1 (Nat.gcd t.natAbs ((n : Int)).natAbs) with h | h
    · have := Nat.div_lt_self (show 0 < n by omega) h
      omega
    · omega
  · intro h
    rw [h]
    simp
theorem ok_lisF {f fR : Addr} {fd fdR : FuncData} (F : Fun K "_law_is_fraction" "_law_is_fraction" sLIsF f fd) (T : Txt mg) (FR : Fun K "_law_reduced" "_law_reduced" sRed fR fdR) (bR : Binds K fdR ["top", "whole"] []) (gR : mg "_law_reduced" = some (.ref fR)) :
    FnOk P w K mg base CX0 2 f fd ["thing"] (spLIsF K) := by
  have GR : FnOk P w K mg base CX0 1 fR fdR ["top", "whole"] spRed := ok_red FR
  refine F.ok scLIsF (fun vs H Q E h => ?_) (fun cdv A outer s H vs Q E hr h => ?_)
  · obtain ⟨v, d, G, rfl, _⟩ := h
    rfl
  · obtain ⟨v, d, G, rfl, e, h, hb, k⟩ := h
    refine ⟨_, pss_cons (ps_if (PW.pt (pw_or (pt_not (pt_val (pe_callB call_isi (by rfl) T.isi boot_isinstance (pa_cons (pv 0) (pa_cons (pe_bltn (v := .ty "tuple") (by rfl) T.tuple boot_tuple rfl) pa_nil)))))
        (pw_or1 (pt_cmpR op_ne (pe_callB call_len_seq (by rfl) T.len PySem.boot_len (pa_cons (pv 0) pa_nil)) pe_int (nomark _))))) (pss_one (ps_ret pe_bl)) pss_nil)
      (pss_cons (ps_for PassesOwn.never rfl (pi_tup (pv 0)) (pg_name (i := 1) scLIsF.nd rfl (Or.inl rfl))
        (pss_one (ps_if (PW.pt (pw_or (pt_not (pt_val (pe_callB call_isi (by rfl) T.isi boot_isinstance (pa_cons (pv 1) (pa_cons (pe_bltn (v := .ty "int") (by rfl) T.int boot_int rfl) pa_nil)))))
          (pw_or1 (pt_val (pe_callB call_isi (by rfl) T.isi boot_isinstance (pa_cons (pv 1) (pa_cons (pe_bltn (v := .ty "bool") (by rfl) T.bool boot_bool rfl) pa_nil))))))) (pss_one (ps_ret pe_bl)) pss_nil)))
      (pss_cons (ps_asg (pv 0) (pg_tup (by rfl) (pgs_cons (pg_name (i := 2) scLIsF.nd rfl (Or.inl rfl)) (pgs_cons (pg_name (i := 3) scLIsF.nd rfl (Or.inl rfl)) pgs_nil))))
      (pss_one (ps_ret (pe_and (pe_cmpR op_gt (pv 3) pe_int (nomark _)) (pe_and (pe_chain op_le op_le pe_int (pv 2) (pv 3)) (pe_one (pe_cmpR (op_eqD hr.units) (pe_call GR hr (by rfl) gR FR.kp bR .nil pass0 (pa_cons (pv 2) (pa_cons (pv 3) pa_nil))) (pv 0) (nomark _))))))))), ?_⟩
    have k0 : isFr d = false → Q (.bl false) H := fun z => by rw [← z]; exact k H (Same.refl H)
    refine ⟨_, rfl, _, _, _, _, _, rfl, .ty _, h.ty e, kit_ty (kit_tuple d), _, rfl, ?_⟩
    cases ht : isT "tuple" d with
    | false => exact iteT (iteT (k0 (notTup ht)))
    | true =>
      obtain ⟨ds, rfl⟩ := isTup_of ht
      cases h with
      | tup hs ha =>
        rename_i a xs
        have hS : SqT K H a xs := SqT.of (e _ _ hs)
        refine iteF ⟨_, rfl, a, xs, rfl, .inr hS, rfl, _, rfl, ite2 (fun hn => ?_) (fun hn => ?_)⟩
        · have hl : ds.length ≠ 2 := fun z => by
            rw [ha.len, z] at hn
            exact absurd hn (by decide)
          exact k0 (fr_len hl)
        · have hl : xs.length = 2 := by
            have : ¬ ((!decide (V.int (xs.length : Int) = V.int 2)) = true) := hn
            by_cases q : V.int (xs.length : Int) = V.int 2
            · have := V.int.inj q
              omega
            · exact absurd (by rw [decide_eq_false q]; rfl) this
          obtain ⟨x, y, dx, dy, rfl, rfl, hx, hy⟩ := two_of ha hl
          have hl2 : ∀ i z, [x, y][i]? = some z → ∃ dz, [dx, dy][i]? = some dz ∧ Dq K G z dz := fun i z q => ha.get q
          refine ⟨_, rfl, a, rfl, ⟨_, hS⟩, for_tup (K := K) (a := a) (xs := [x, y]) (fun i σ H2 => H2 = H ∧ (∃ z, σ = [some (.ref a), z, none, none]) ∧ ∀ dz ∈ [dx, dy].take i, isW dz = true) ⟨rfl, ⟨none, rfl⟩, fun _ q => by cases q⟩ (fun i σ H2 _ q => by rw [q.1]; exact hS) ?_ ?_⟩
          · rintro i z σ H2 hz ⟨rfl, ⟨z1, rfl⟩, hw⟩
            obtain ⟨dz, gz, hq⟩ := hl2 i z hz
            have bad : isW dz = false → isFr (.tuple [dx, dy]) = false := fun hf => by
              match i, gz with
              | 0, g => cases g; exact fr_x hf
              | 1, g =>
                cases g
                obtain ⟨n, rfl⟩ := isW_int (hw dx (List.mem_cons_self ..))
                exact fr_y hf
            have good : isW dz = true → ∀ d2 ∈ [dx, dy].take (i + 1), isW d2 = true := fun hf d2 h2 => by
              rw [List.take_add_one, gz] at h2
              rcases List.mem_append.mp h2 with h2 | h2
              · exact hw d2 h2
              · have : d2 = dz := by simpa using h2
                rw [this]; exact hf
            refine ⟨_, rfl, _, _, _, _, _, rfl, .ty _, hq.ty e, kit_ty (kit_int dz), _, rfl, ?_⟩
            cases dz with
            | int n => exact iteF ⟨_, rfl, _, _, _, _, _, rfl, .ty _, hq.ty e, kit_ty (kit_bool _), _, rfl, iteF ⟨rfl, ⟨some z, rfl⟩, good rfl⟩⟩
            | bool n => exact iteF ⟨_, rfl, _, _, _, _, _, rfl, .ty _, hq.ty e, kit_ty (kit_bool _), _, rfl, iteT (k0 (bad rfl))⟩
            | none => exact iteT (iteT (k0 (bad rfl)))
            | str _ => exact iteT (iteT (k0 (bad rfl)))
            | list _ => exact iteT (iteT (k0 (bad rfl)))
            | tuple _ => exact iteT (iteT (k0 (bad rfl)))
            | dict _ => exact iteT (iteT (k0 (bad rfl)))
          · rintro σ H2 ⟨rfl, ⟨z1, rfl⟩, hw⟩
            obtain ⟨i, rfl⟩ := isW_int (hw dx (by simp))
            obtain ⟨j, rfl⟩ := isW_int (hw dy (by simp))
            have hj := hb i j rfl
            cases hx
            cases hy
            refine ⟨_, rfl, a, _, rfl, hS, rfl, _, _, rfl, _, _, rfl, rfl, ?_⟩
            have kk : ∀ (c : Bool) (H3 : Hp), Same H2 H3 → decide (0 ≤ i ∧ i ≤ j ∧ Nat.gcd i.natAbs j.natAbs = 1) = c → Q (.bl c) H3 := fun c H3 s3 z => by
              have z' : isFr (.tuple [.int i, .int j]) = c := z
              rw [← z']; exact k H3 s3
            have s0 := Same.refl H2
            refine ⟨_, rfl, _, _, rfl, rfl, _, rfl, ite2 (fun g0 => ?_) (fun g0 => kk false _ s0 ?_)⟩
            · have g0' : 0 < j := of_decide_eq_true g0
              refine ⟨_, rfl, _, _, rfl, rfl, _, rfl, ?_⟩
              refine ite2 (fun g1 => ⟨_, rfl, _, _, rfl, rfl, _, rfl, ?_⟩) (fun g1 => ⟨_, rfl, iteF (kk false _ s0 ?_)⟩)
              · have g1' : 0 ≤ i := of_decide_eq_true g1
                refine ite2 (fun g2 => ⟨_, rfl, _, rfl, i, j, rfl, g1', g0', hj, fun q hq => ?_⟩) (fun g2 => kk false _ s0 ?_)
                · have g2' : i ≤ j := of_decide_eq_true g2
                  have naq : a ≠ q := ne_of_none (e _ _ hs) hq
                  refine ⟨_, rfl, .tuple [.int (i / gN i j), .int (j / gN i j)], .tuple [.int i, .int j], .tup (SqT.of upd_same) (.cons (.int _) (.cons (.int _) .nil)),
                    .tup (SqT.of (by rw [upd_ne naq]; exact e _ _ hs)) (.cons (.int _) (.cons (.int _) .nil)), rfl, rfl, kk _ _ (Same.upd hq) ?_⟩
                  rw [eqv_pair]
                  exact decide_eq_decide.mpr ⟨fun z => (red_one g1' g0').mpr z.2.2, fun z => ⟨g1', g2', (red_one g1' g0').mp z⟩⟩
                · refine decide_eq_false fun z => ?_
                  exact g2 (decide_eq_true z.2.1)
              · refine decide_eq_false fun z => ?_
                exact g1 (decide_eq_true z.1)
            · refine decide_eq_false fun z => g0 (decide_eq_true ?_)
              rcases Int.lt_or_le 0 j with h | h
              · exact h
              · have e1 : i = 0 := by omega
                have e2 : j = 0 := by omega
                rw [e1, e2] at z
                exact absurd z.2.2 (by decide)
end
end My

namespace My
open PySem PySem.Spec PyProof.Rows L2
/-! ### t[::-1] -/
section
variable {prog : Program} {w : World} {A : Around} {E : Value → Shared → Prop} {s : Shared}
theorem backwards (xs : Array Value) : ((List.range xs.size).filterMap fun (m : Nat) => xs[((xs.size : Int) - 1 + (m : Int) * -1).toNat]?).toArray = xs.toList.reverse.toArray := by
  have e1 : (List.range xs.size).filterMap (fun (m : Nat) => xs[((xs.size : Int) - 1 + (m : Int) * -1).toNat]?) = ((List.range xs.size).map fun k => xs.size - 1 - k).filterMap (xs[·]?) := by
    rw [List.filterMap_map]
    congr 1
    funext m
    show _ = xs[xs.size - 1 - m]?
    have : ((xs.size : Int) - 1 + (m : Int) * -1).toNat = xs.size - 1 - m := by omega
    rw [this]
  rw [e1, PySem.W.krv_range, List.filterMap_reverse, PySem.W.krv_all]
theorem getItem_back {t sl : Addr} {items : Array Value} {tk : Tok} {Q : Value → Shared → Prop} (ht : IsTup s.heap t items) (hs : s.heap.IsSliceOf sl .none .none (.int (-1) tk)) (hsz : items.size ≤ sizeLine)
    (q : Q (.ref s.heap.objs.size) { s with heap := s.heap.push { cls := .type "tuple", data := .seq items.toList.reverse.toArray } }) : wpAny (model prog w) A (getItem (.ref t) (.ref sl)) Q E s := by
  have hfit : sizeOk (.seq items.toList.reverse.toArray) := by show items.toList.reverse.toArray.size ≤ sizeLine; simpa using hsz
  obtain ⟨ob, hob, hcl, hdat⟩ := id hs
  have hT : s.TypeIs (.ref sl) "slice" := ⟨ob, hob, hcl⟩
  unfold getItem; try with_reducible refine wpAny_holding ?_
  first | refine wpAny_bind (wpAny_pure ?_) | skip
  refine wpAny_bind (wpAny_sequenceKey ht.typeIs (by decide) ?_); refine wpAny_bind (wpAny_callSpecial?_slot (name := Str.ofString "__getitem__") ht.typeIs slot_tuple_getitem (wpAny_call_entry slot_tuple_getitem ht.typeIs entry_tuple_getitem ?_ (args_tuple_getitem _ _)))
  show wpAny _ _ (Builtin.Tuple.tupleItemsOf (.ref t) >>= _) _ _ s; refine wpAny_bind (tupleItemsOf_ ht ?_); refine wpAny_bind (wpAny_typeOf hT ?_); rw [if_pos (by decide)]
  have step : ∀ {R : Int × Int × Nat → Shared → Prop}, R ((items.size : Int) - 1, -1, items.size) s → wpAny (model prog w) A.in1 (Builtin.Slice.sliceApplied (.ref sl) (pure (items.size : Int))) R E s := by
    intro R hR; unfold Builtin.Slice.sliceApplied Builtin.Slice.sliceFields
    refine wpAny_bind (wpAny_bind (wpAny_field hob hdat (x := .none) rfl (wpAny_bind (wpAny_field hob hdat (x := .none) rfl (wpAny_bind (wpAny_field hob hdat (x := .int (-1) tk) rfl (wpAny_pure ?_)))))))
    refine wpAny_bind (slicePart_int ?_); show wpAny _ _ (if ((-1 : Int) == 0) = true then _ else _) _ _ s; rw [if_neg (by decide)]
    refine wpAny_bind (PyProof.Rows.slicePart_none (wpAny_bind (PyProof.Rows.slicePart_none (wpAny_bind (wpAny_pure ?_)))))
    show wpAny _ _ (match Builtin.Slice.sliceAdjust none none (-1) (items.size : Int) with | (lo, hi) => pure (lo, (-1 : Int), Builtin.Slice.slicePlaces lo hi (-1))) _ _ s
    have e1 : Builtin.Slice.sliceAdjust none none (-1) (items.size : Int) = ((items.size : Int) - 1, -1) := rfl
    rw [e1]; show wpAny _ _ (pure ((items.size : Int) - 1, (-1 : Int), Builtin.Slice.slicePlaces ((items.size : Int) - 1) (-1) (-1))) _ _ s
    have e2 : Builtin.Slice.slicePlaces ((items.size : Int) - 1) (-1) (-1) = items.size := by
      unfold Builtin.Slice.slicePlaces
      have h1 : ¬ ((-1 : Int) > 0) := by decide
      simp only [h1, if_false]
      by_cases h : (items.size : Int) - 1 > -1
      · rw [if_pos h, show (- -1 : Int) = 1 by decide, Int.ediv_one]; omega
      · rw [if_neg h]; omega
    rw [e2]; exact wpAny_pure hR
  refine wpAny_bind (step ?_)
  show wpAny _ _ (if (((items.size : Int) - 1) == 0 && (-1 : Int) == 1 && items.size == items.size) = true then _ else _) _ _ s
  rw [if_neg (by rw [show ((-1 : Int) == 1) = false by decide, Bool.and_false, Bool.false_and]; decide), backwards]
  first
    | exact wpAny_bind (m := Builtin.Tuple.tupleExact _) (wpAny_newObj_type (wpAny_pure ⟨_, rfl, wpAny_pure q⟩) hfit)
    | exact wpAny_bind (m := Builtin.Tuple.tupleExact _) (wpAny_newObj_type (wpAny_bind (wpAny_pure (wpAny_pure ⟨_, rfl, wpAny_pure q⟩))) hfit)
    | exact wpAny_bind (wpAny_bind (m := Builtin.Tuple.tupleExact _) (wpAny_newObj_type (wpAny_pure (wpAny_pure ⟨_, rfl, wpAny_pure q⟩)) hfit))
    | exact wpAny_bind (wpAny_bind (m := Builtin.Tuple.tupleExact _) (wpAny_newObj_type (wpAny_pure ⟨_, rfl, wpAny_pure q⟩) hfit))
end
section
variable {X : Cx}
def tRevT (K : PySem.W.Frag) (te : TE) : TE := fun σ H Q => te σ H fun x H1 => ∃ a xs, x = .ref a ∧ SqT K H1 a xs ∧ ∀ p, H1 p = none → Q (.ref p) (upd H1 p (.tup xs.reverse))
theorem pe_revT {e : Expr} {te : TE} {k : Nat} {p1 p2 p3 pos : Pos} (he : PE X e te) : PE X (.Subscript e (.Slice none none (some (.UnaryOp .USub (.Constant (.int 1) k p1) p2)) p3) pos) (tRevT X.K te) := by
  refine ⟨fun pins s σ H Q I h => ?_⟩
  refine Subscript_ (thn (he.run pins s σ H _ I h) fun v s1 ⟨x, H1, I1, r1, q1⟩ => ?_)
  obtain ⟨a, xs, ex, hx, q⟩ := q1
  subst ex; cases r1
  have hst : PO X (some (.UnaryOp .USub (.Constant (.int 1) k p1) p2)) (tPart (tUn (rU fun i => .int (-i)) (tC (.int 1)))) := po_some (pe_un un_neg pe_int)
  refine wpAny_Slice (thn (po_none.run pins s1 σ H1 (fun o H2 => o = none ∧ H2 = H1) I1 ⟨rfl, rfl⟩) fun vl s2 ⟨l, H2, I2, pl, el, e2⟩ => ?_)
  subst el e2
  refine thn (po_none.run pins s2 σ H2 (fun o H3 => o = none ∧ H3 = H2) I2 ⟨rfl, rfl⟩) fun vu s3 ⟨u, H3, I3, pu, eu, e3⟩ => ?_
  subst eu e3
  refine thn (hst.run pins s3 σ H3 (fun o H4 => o = some (-1) ∧ H4 = H3) I3 ⟨1, rfl, -1, rfl, rfl, rfl⟩) fun vs s4 ⟨o, H4, I4, ps, eo, e4⟩ => ?_
  subst eo e4
  cases pl; cases pu; cases ps with
  | int i tk =>
  have J : Inv X pins σ H4 { s4 with heap := s4.heap.push { cls := .type "slice", data := .fields #[.none, .none, .int (-1) tk] } } := I4.kept (t' := s4.toks) fun b ob q => Heap.get?_push_of_some _ q
  obtain ⟨its, r, ht, hz⟩ := J.tuple hx
  have hl := r.length
  show wpAny (model X.prog X.w) X.A (subscriptTail e (.Slice none none (some (.UnaryOp .USub (.Constant (.int 1) k p1) p2)) p3) (.ref a) (.ref s4.heap.objs.size)) (EP X pins σ Q) X.xe { s4 with heap := s4.heap.push { cls := .type "slice", data := .fields #[.none, .none, .int (-1) tk] } }
  refine tail_any (ops := [.ref a, .ref s4.heap.objs.size]) ht.typeIs (slot_tuple_getitem.lookup) ?_ (by with_unfolding_all rfl)
  refine getItem_back ht (Heap.IsSliceOf.new _ .none .none (.int (-1) tk)) (by rw [List.size_toArray]; omega) ?_
  refine ⟨.ref _, _, J.laid (t' := s4.toks) (o := .tup xs.reverse) (fun b ob q => Heap.get?_push_of_some _ q) (Nat.le_refl _) ?_, rfl, q _ (J.hok.fresh (Nat.le_refl _))⟩
  exact ⟨by rw [List.length_reverse]; exact hz, _, r.reverse, IsTup.new _ _⟩
end
/-! ### repr -/
section
variable {X : Cx}
def rRepr (K : PySem.W.Frag) : List V → Hp → VK → Prop := fun xs H Q => ∃ (v : V) (d : PyData) (G : Hp), xs = [v] ∧ Same G H ∧ Dq K G v d ∧ d.showable = true ∧ (d.hasDict = true → hasList d = false) ∧ d.depth ≤ 100 ∧ d.shown.length ≤ sizeLine ∧ Q (.str d.shown) H
theorem cr_repr (hg : X.A.guards = some []) (hu : X.A.units + 111 < cLine) : CallR X (.builtin "repr") (rRepr X.K) := by
  intro pins s σ H xs us Q I r h
  obtain ⟨v, d, G, rfl, e, h, hs, hm, hd, hz, q⟩ := h
  have h' := h.mono e
  have key : ∀ a : Addr, us = [.ref a] → RelV v (.ref a) → wpAny (model X.prog X.w) X.A (call (.builtin "repr") us) (EP X pins σ Q) X.xe s := fun a ea ra => by
    subst ea
    obtain ⟨as, hr, hn⟩ := Dq.reads I d v _ h' ra
    exact repr_of_reads' hr hs (fun z => hn (hm z)) hg (by omega) (fun _ _ e => e) (fun h2 u tk hk => ⟨.str _, H, I.kept hk, ⟨_, rfl⟩, q⟩) hz
  cases r with
  | cons r0 rr =>
    cases rr
    cases h with
    | non => cases r0; exact PySem.P.repr_of_none ⟨.str _, H, I.tok _, ⟨_, rfl⟩, q⟩
    | bl b => cases r0; exact PySem.P.repr_of_bool ⟨.str _, H, I.tok _, ⟨_, rfl⟩, q⟩
    | int i =>
      obtain ⟨t, rfl⟩ := r0
      exact PySem.P.repr_of_int (by simpa [PyData.showable] using hs) ⟨.str _, H, I.tok _, ⟨_, rfl⟩, q⟩
    | str x =>
      obtain ⟨t, rfl⟩ := r0
      exact PySem.P.repr_of_str ⟨.str _, H, I.tok _, ⟨_, rfl⟩, q⟩ hz
    | lst _ _ => cases r0; exact key _ rfl rfl
    | tup _ _ => cases r0; exact key _ rfl rfl
    | dct _ _ _ => cases r0; exact key _ rfl rfl
end
/-! ### data made by an expression -/
structure Nw (G H G' H' : Hp) : Prop where
  gg : Same G G'
  gh : Same G' H'
  hh : Same H H'
  old : ∀ b, H b ≠ none → G' b = G b
theorem Nw.refl {G H : Hp} (e : Same G H) : Nw G H G H := ⟨Same.refl _, e, Same.refl _, fun _ _ => rfl⟩
theorem Nw.trans {G H G1 H1 G2 H2 : Hp} (a : Nw G H G1 H1) (b : Nw G1 H1 G2 H2) : Nw G H G2 H2 := by
  refine ⟨a.gg.trans b.gg, b.gh, a.hh.trans b.hh, fun c h => ?_⟩
  have h1 : H1 c ≠ none := by
    cases q : H c with
    | none => exact absurd q h
    | some o => rw [a.hh c o q]; exact fun z => nomatch z
  rw [b.old c h1, a.old c h]
theorem Nw.mk1 {G H : Hp} (e : Same G H) {p : Addr} (n : H p = none) (o : HO) : Nw G H (upd G p o) (upd H p o) := by
  refine ⟨Same.upd (e.free n), fun b u h => ?_, Same.upd n, fun b h => upd_ne (fun z => h (by rw [z]; exact n))⟩
  by_cases hb : b = p
  · subst hb; rw [upd_same] at h ⊢; exact h
  · rw [upd_ne hb] at h ⊢; exact e b u h
theorem PE.imp {X : Cx} {e : Expr} {t t' : TE} (h : PE X e t) (i : ∀ σ H Q, t' σ H Q → t σ H Q) : PE X e t' := ⟨fun pins s σ H Q I q => h.run pins s σ H Q I (i σ H Q q)⟩
theorem PA.imp {X : Cx} {es : List Expr} {t t' : TA} (h : PA X es t) (i : ∀ σ H Q, t' σ H Q → t σ H Q) : PA X es t' := ⟨fun pos pins s σ H Q I q => h.run pos pins s σ H Q I (i σ H Q q)⟩
def tDc (K : PySem.W.Frag) (d : PyData) : TE := fun _ H Q => ∃ G, Same G H ∧ ∀ v G' H', Nw G H G' H' → Dq K G' v d → Q v H'
def tDcs (K : PySem.W.Frag) (ds : List PyData) : TA := fun _ H Q => ∃ G, Same G H ∧ ∀ vs G' H', Nw G H G' H' → DqAll K G' vs ds → Q vs H'
section
variable {X : Cx} {pos : Pos}
theorem dc_int {i : Int} {j : Nat} : PE X (.Constant (.int i) j pos) (tDc X.K (.int i)) := PE.imp pe_int fun _ _ _ ⟨_, e, k⟩ => k _ _ _ (Nw.refl e) (.int i)
theorem dc_str {x : Str} {j : Nat} : PE X (.Constant (.str x) j pos) (tDc X.K (.str x)) := PE.imp pe_str fun _ _ _ ⟨_, e, k⟩ => k _ _ _ (Nw.refl e) (.str x)
theorem dc_bl {b : Bool} {j : Nat} : PE X (.Constant (.bool b) j pos) (tDc X.K (.bool b)) := PE.imp pe_bl fun _ _ _ ⟨_, e, k⟩ => k _ _ _ (Nw.refl e) (.bl b)
theorem dc_non {j : Nat} : PE X (.Constant .none j pos) (tDc X.K .none) := PE.imp pe_non fun _ _ _ ⟨_, e, k⟩ => k _ _ _ (Nw.refl e) .non
theorem dc_neg {i : Int} {j : Nat} {p : Pos} : PE X (.UnaryOp .USub (.Constant (.int i) j p) pos) (tDc X.K (.int (-i))) := PE.imp (pe_un un_neg pe_int) fun _ _ _ ⟨_, e, k⟩ => ⟨i, rfl, k _ _ _ (Nw.refl e) (.int _)⟩
theorem dc_pow {i j : Int} {a b : Nat} {p q : Pos} (h : CPow i j) : PE X (.BinOp (.Constant (.int i) a p) .Pow (.Constant (.int j) b q) pos) (tDc X.K (.int (i ^ j.toNat))) :=
  PE.imp (pe_op op_pow pe_int pe_int) fun _ _ _ ⟨_, e, k⟩ => ⟨i, j, rfl, rfl, h, k _ _ _ (Nw.refl e) (.int _)⟩
theorem das_nil : PA X [] (tDcs X.K []) := PA.imp pa_nil fun _ _ _ ⟨_, e, k⟩ => k _ _ _ (Nw.refl e) .nil
theorem das_cons {e : Expr} {es : List Expr} {d : PyData} {ds : List PyData} (h1 : PE X e (tDc X.K d)) (h2 : PA X es (tDcs X.K ds)) (hs : starEach (e :: es) X.env = (false, eval e X.env) :: starEach es X.env := by rfl) : PA X (e :: es) (tDcs X.K (d :: ds)) :=
  PA.imp (pa_cons h1 h2 hs) fun _ _ _ ⟨G, e, k⟩ => ⟨G, e, fun _ G1 _ n1 d1 => ⟨G1, n1.gh, fun _ _ _ n2 d2 => k _ _ _ (n1.trans n2) (.cons (d1.mono n2.gg) d2)⟩⟩
theorem dc_tup {es : List Expr} {ds : List PyData} {x1} (h : PA X es (tDcs X.K ds)) (hl : ds.length ≤ sizeLine) : PE X (.Tuple es x1 pos) (tDc X.K (.tuple ds)) :=
  PE.imp (pe_tup h) fun _ _ _ ⟨G, e, k⟩ => ⟨G, e, fun vs G1 H1 n1 d1 => ⟨by rw [d1.len]; exact hl, fun p np => k _ _ _ (n1.trans (Nw.mk1 n1.gh np (.tup vs))) (.tup upd_same (d1.mono (Nw.mk1 n1.gh np (.tup vs)).gg))⟩⟩
theorem dc_lst {es : List Expr} {ds : List PyData} (h : PA X es (tDcs X.K ds)) (hl : ds.length ≤ sizeLine) : PE X (.List es pos) (tDc X.K (.list ds)) :=
  PE.imp (pe_lst h) fun _ _ _ ⟨G, e, k⟩ => ⟨G, e, fun vs G1 H1 n1 d1 => ⟨by rw [d1.len]; exact hl, fun p np => k _ _ _ (n1.trans (Nw.mk1 n1.gh np (.lst vs))) (.lst upd_same (d1.mono (Nw.mk1 n1.gh np (.lst vs)).gg))⟩⟩
theorem dc_dict0 : PE X (.Dict [] [] pos) (tDc X.K (.dict [])) :=
  PE.imp pe_dnewK fun _ _ _ ⟨G, e, k⟩ => fun p np => k _ _ _ (Nw.mk1 e np (.dK [])) (.dct upd_same .nil .nil)
theorem dc_dict01 {a b c d : Nat} {p1 p2 p3 p4 : Pos} : PE X (.Dict [some (.Constant (.int 0) a p1), some (.Constant (.int 1) b p2)] [.Constant (.int 1) c p3, .Constant (.int 1) d p4] pos) (tDc X.K (.dict [(.int 0, .int 1), (.int 1, .int 1)])) := by
  refine PE.imp (pe_disp (pps_cons pe_int pe_int (pps_cons pe_int pe_int pps_nil)) rfl rfl (by simp) (by show 2 ≤ 15; decide)) fun _ H Q ⟨G, e, k⟩ => fun p np => ?_
  refine ⟨upd_same, [(.inl 0, .int 1), (.inl 1, .int 1)], rfl, by decide, ?_⟩
  rw [upd_upd]
  exact k _ _ _ (Nw.mk1 e np (.dK [(.inl 0, .int 1), (.inl 1, .int 1)])) (.dct upd_same (.cons (.int _) (.cons (.int _) .nil)) (.cons (.int _) (.cons (.int _) .nil)))
end
end My

namespace My
open PySem PySem.Spec PyProof.Rows L2
/-! ### data of small texts -/
structure Sm (d : PyData) : Prop where
  sh : d.showable = true
  ln : d.shown.length ≤ 10000
  dp : d.depth ≤ 10
structure Fine (d : PyData) : Prop where
  sh : d.showable = true
  ln : d.shown.length ≤ 100000
  dp : d.depth ≤ 100
  hm : d.hasDict = true → hasList d = false
  bd : ∀ t b : Int, d = .tuple [.int t, .int b] → b.natAbs < 2 ^ 8000
theorem log_small {i : Int} (h : i.natAbs < 2 ^ 1900) : i.natAbs.log2 < 1920 := by
  have := PySem.Flt.log2_lt_of (k := 1900) (by decide) h
  omega
theorem sm_int {i : Int} (h : i.natAbs < 2 ^ 1900) : Sm (.int i) := by
  refine ⟨?_, ?_, by simp only [PyData.depth]; omega⟩
  · simp only [PyData.showable]; exact decide_eq_true (log_small h)
  · have := int_text_len_1921 (log_small h)
    show (PySem.Str.ofString (toString i)).length ≤ 10000
    omega
theorem len_ap (a b : Str) : (a ++ b).length = a.length + b.length := Str.length_append a b
theorem l1 : ((("(" : String) : Str)).length = 1 := by decide
theorem l2 : ((("," : String) : Str)).length = 1 := by decide
theorem l3 : (((", " : String) : Str)).length = 2 := by decide
theorem l4 : (((",)" : String) : Str)).length = 2 := by decide
theorem l5 : (((")" : String) : Str)).length = 1 := by decide
theorem l6 : ((("[" : String) : Str)).length = 1 := by decide
theorem l7 : ((("]" : String) : Str)).length = 1 := by decide
theorem l8 : ((("" : String) : Str)).length = 0 := by decide
theorem tl1 (x : Str) : (tupleText [x]).length = x.length + 3 := by
  have e : tupleText [x] = ((("(" : String) : Str) ++ x) ++ ((",)" : String) : Str) := rfl
  rw [e, len_ap, len_ap, l1, l4]; omega
theorem tl2 (x y : Str) : (tupleText [x, y]).length = x.length + y.length + 4 := by
  have e : tupleText [x, y] = ((("(" : String) : Str) ++ (x ++ ((", " : String) : Str) ++ y)) ++ ((")" : String) : Str) := rfl
  rw [e, len_ap, len_ap, len_ap, len_ap, l1, l3, l5]; omega
theorem tl3 (x y z : Str) : (tupleText [x, y, z]).length = x.length + y.length + z.length + 6 := by
  have e : tupleText [x, y, z] = ((("(" : String) : Str) ++ (x ++ ((", " : String) : Str) ++ (y ++ ((", " : String) : Str) ++ z))) ++ ((")" : String) : Str) := rfl
  rw [e, len_ap, len_ap, len_ap, len_ap, len_ap, len_ap, l1, l3, l5]; omega
theorem ll2 (x y : Str) : (listText [x, y]).length = x.length + y.length + 4 := by
  have e : listText [x, y] = (((("[" : String) : Str) ++ (("" : String) : Str) ++ x) ++ ((", " : String) : Str) ++ y) ++ (("]" : String) : Str) := rfl
  rw [e, len_ap, len_ap, len_ap, len_ap, len_ap, l3, l6, l7, l8]; omega
theorem fine_pair {x y : PyData} (hx : Sm x) (hy : Sm y) (hm : (x.hasDict || y.hasDict) = true → (hasList x || hasList y) = false) (bd : ∀ b, y = .int b → b.natAbs < 2 ^ 8000) : Fine (.tuple [x, y]) := by
  refine ⟨?_, ?_, ?_, ?_, ?_⟩
  · simp only [PyData.showable, PyData.showableAll, hx.sh, hy.sh, Bool.and_self]
  · simp only [PyData.shown, PyData.shownAll]; rw [tl2]; have := hx.ln; have := hy.ln; omega
  · simp only [PyData.depth, PyData.depthAll]; have := hx.dp; have := hy.dp; omega
  · simpa only [PyData.hasDict, PyData.hasDictAll, hasList, hasListAll, Bool.or_false] using hm
  · intro t b e
    injection e with e
    injection e with _ e
    injection e with e _
    exact bd b e
theorem big_of {i : Int} (h : i.natAbs < 2 ^ 1900) : i.natAbs < 2 ^ 8000 := Nat.lt_of_lt_of_le h (Nat.pow_le_pow_right (by decide) (by decide))
theorem fine_ints {a b : Int} (ha : a.natAbs < 2 ^ 1900) (hb : b.natAbs < 2 ^ 1900) : Fine (.tuple [.int a, .int b]) :=
  fine_pair (sm_int ha) (sm_int hb) (fun z => by cases z) fun c e => by cases e; exact big_of hb
theorem fine_one {a : Int} (ha : a.natAbs < 2 ^ 1900) : Fine (.tuple [.int a]) := by
  have hx := sm_int ha
  refine ⟨?_, ?_, ?_, (fun z => by cases z), (fun t b e => by cases e)⟩
  · simp only [PyData.showable, PyData.showableAll, decide_eq_true (log_small ha), Bool.and_true]
  · simp only [PyData.shown, PyData.shownAll]; rw [tl1]; have := hx.ln; simp only [PyData.shown] at this; omega
  · simp only [PyData.depth, PyData.depthAll]; omega
theorem fine_three {a b c : Int} (ha : a.natAbs < 2 ^ 1900) (hb : b.natAbs < 2 ^ 1900) (hc : c.natAbs < 2 ^ 1900) : Fine (.tuple [.int a, .int b, .int c]) := by
  have hx := sm_int ha
  have hy := sm_int hb
  have hz := sm_int hc
  refine ⟨?_, ?_, ?_, (fun z => by cases z), (fun t b e => by cases e)⟩
  · simp only [PyData.showableAll, PyData.showable, decide_eq_true (log_small ha), decide_eq_true (log_small hb), decide_eq_true (log_small hc), Bool.and_true]
  · simp only [PyData.shown, PyData.shownAll]; rw [tl3]; have := hx.ln; have := hy.ln; have := hz.ln; simp only [PyData.shown] at *; omega
  · simp only [PyData.depth, PyData.depthAll]; omega
theorem fine_list {a b : Int} (ha : a.natAbs < 2 ^ 1900) (hb : b.natAbs < 2 ^ 1900) : Fine (.list [.int a, .int b]) := by
  have hx := sm_int ha
  have hy := sm_int hb
  refine ⟨?_, ?_, ?_, (fun z => by cases z), (fun t b e => by cases e)⟩
  · simp only [PyData.showableAll, PyData.showable, decide_eq_true (log_small ha), decide_eq_true (log_small hb), Bool.and_true]
  · simp only [PyData.shown, PyData.shownAll]; rw [ll2]; have := hx.ln; have := hy.ln; simp only [PyData.shown] at *; omega
  · simp only [PyData.depth, PyData.depthAll]; omega
theorem fine_in {a b : Int} (ha : a.natAbs < 2 ^ 1900) (hb : b.natAbs < 2 ^ 1900) : Fine (.tuple [.tuple [.int a, .int b]]) := by
  have hx := fine_ints ha hb
  refine ⟨?_, ?_, ?_, (fun z => by cases z), (fun t b e => by cases e)⟩
  · simp only [PyData.showableAll, PyData.showable, decide_eq_true (log_small ha), decide_eq_true (log_small hb), Bool.and_true]
  · have q : (PyData.tuple [.int a, .int b]).shown.length ≤ 20004 := by
      simp only [PyData.shown, PyData.shownAll]; rw [tl2]; have := (sm_int ha).ln; have := (sm_int hb).ln; simp only [PyData.shown] at *; omega
    simp only [PyData.shown, PyData.shownAll] at q ⊢; rw [tl1]; omega
  · simp only [PyData.depth, PyData.depthAll]; omega
def odds : List PyData := [.bool true, .bool false, .none, .str "1", .str "", .str "0", .tuple [], .tuple [.int 1], .list [], .dict [], .int (-1), .int (10 ^ (30 : Int).toNat)]
theorem thirty : ((10 : Int) ^ (30 : Int).toNat).natAbs < 2 ^ 1900 := by decide +kernel
theorem int_bd {i : Int} (h : i.natAbs < 2 ^ 1900) : ∀ b, PyData.int i = .int b → b.natAbs < 2 ^ 1900 := fun b e => by
  injection e with e
  rw [← e]; exact h
theorem odd_sm {d : PyData} (h : d ∈ odds) : Sm d ∧ (d.hasDict = true → hasList d = false) ∧ ∀ b, d = .int b → b.natAbs < 2 ^ 1900 := by
  unfold odds at h
  simp only [List.mem_cons, List.not_mem_nil, or_false] at h
  rcases h with rfl | rfl | rfl | rfl | rfl | rfl | rfl | rfl | rfl | rfl | rfl | rfl
  all_goals first
    | exact ⟨sm_int (by decide +kernel), (fun z => by cases z), int_bd (by decide +kernel)⟩
    | exact ⟨⟨by decide +kernel, by decide +kernel, by decide +kernel⟩, by decide +kernel, fun b e => by cases e⟩
theorem fine_odd1 {d : PyData} {a : Int} (h : d ∈ odds) (ha : a.natAbs < 2 ^ 1900) : Fine (.tuple [d, .int a]) := by
  obtain ⟨h1, h2, h3⟩ := odd_sm h
  refine fine_pair h1 (sm_int ha) (fun z => ?_) fun c e => by cases e; exact big_of ha
  simp only [PyData.hasDict, Bool.or_false] at z
  simp only [hasList, Bool.or_false]
  exact h2 z
theorem fine_odd2 {d : PyData} {a : Int} (h : d ∈ odds) (ha : a.natAbs < 2 ^ 1900) : Fine (.tuple [.int a, d]) := by
  obtain ⟨h1, h2, h3⟩ := odd_sm h
  refine fine_pair (sm_int ha) h1 (fun z => ?_) fun c e => big_of (h3 c e)
  simp only [PyData.hasDict, Bool.false_or] at z
  simp only [hasList, Bool.false_or]
  exact h2 z
def consts1 : List PyData := [.tuple [.int 0, .int 1], .tuple [.int 1, .int 1], .tuple [.int 1, .int 0], .tuple [.int 0, .int 0], .tuple [.int 0, .int 2], .tuple [.int 2, .int 2], .tuple [.int 3, .int 2], .tuple [.int (-1), .int 2], .tuple [.int 1, .int (-2)], .tuple [.int (-1), .int (-2)], .tuple []]
def consts2 : List PyData := [.none, .int 0, .int 1, .bool true, .str "", .str "1/2", .str "12", .str "01", .dict [], .dict [(.int 0, .int 1), (.int 1, .int 1)], .list [], .list [.int 0, .int 1], .tuple [.tuple [.int 0, .int 1], .tuple [.int 1, .int 1]]]
theorem consts_fine : ∀ d ∈ consts1 ++ consts2, Fine d := by
  intro d h
  simp only [consts1, consts2, List.cons_append, List.nil_append, List.mem_cons, List.not_mem_nil, or_false] at h
  rcases h with rfl | rfl | rfl | rfl | rfl | rfl | rfl | rfl | rfl | rfl | rfl | rfl | rfl | rfl | rfl | rfl | rfl | rfl | rfl | rfl | rfl | rfl | rfl | rfl
  all_goals first
    | exact fine_ints (by decide) (by decide)
    | exact ⟨by decide +kernel, by decide +kernel, by decide +kernel, by decide +kernel, fun t b e => by cases e⟩
/-! ### _law_odd -/
structure Mv (p : Addr) (G H G' H' : Hp) : Prop where
  gg : Same G G'
  gh : Same G' H'
  bt : But p H H'
  old : ∀ b, H b ≠ none → G' b = G b
def spOdd (K : PySem.W.Frag) : Sp := fun vs H Q _ => ∃ (p : Addr) (t : Nat) (G : Hp), vs = [.ref p] ∧ PenAt H p t ∧ t < 2 ^ 29 ∧ Same G H ∧ G p = none ∧ ∀ (v : V) (d : PyData) (G' H' : Hp), Mv p G H G' H' → PenAt H' p (t + 1) → Dq K G' v d → d ∈ odds → Q v H'
section
variable {P : Program} {w : World} {K : PySem.W.Frag} {mg : Str → Option Value} {base : Heap}
theorem PenAt.some {H : Hp} {p : Addr} {t : Nat} (h : PenAt H p t) : H p ≠ none := by
  obtain ⟨c, cells, x, y, h1, _⟩ := h.ex
  rw [h1]; exact fun z => nomatch z
theorem pen_not {H : Hp} {p l : Addr} {t : Nat} (h : PenAt H p t) (n : H l = none) : l ≠ p := fun z => h.some (by rw [← z]; exact n)
/-- what stands still stands still though the pen moves -/
theorem same_but {G H H' : Hp} {p : Addr} (e : Same G H) (n : G p = none) (b : But p H H') : Same G H' := fun a o h => b a o (ne_of_none h n) (e a o h)
theorem scOdd : FnScope ["pen"] ["pen"] (defScope sOdd) := ⟨rfl, rfl, rfl, by decide +kernel, rfl, by decide +kernel, by decide +kernel⟩
theorem ok_odd {f fT : Addr} {fd fdT : FuncData} (F : Fun K "_law_odd" "_law_odd" sOdd f fd) (FT : Fun K "_law_take" "_law_take" sTake fT fdT) (GT : FnOk P w K mg base CX0 2 fT fdT ["pen", "many"] spTake) (bT : Binds K fdT ["pen", "many"] []) (gT : mg "_law_take" = some (.ref fT)) :
    FnOk P w K mg base CX0 3 f fd ["pen"] (spOdd K) := by
  refine F.ok scOdd (fun vs H Q E h => ?_) (fun cdv A outer s H vs Q E hr h => ?_)
  · obtain ⟨p, t, G, rfl, _⟩ := h
    rfl
  · obtain ⟨p, t, G, rfl, hP, ht, e, np, k⟩ := h
    refine ⟨_, pss_one (ps_ret (pe_ix ix_list (pe_lst (das_cons dc_bl (das_cons dc_bl (das_cons dc_non (das_cons dc_str (das_cons dc_str (das_cons dc_str (das_cons (dc_tup das_nil (by decide)) (das_cons (dc_tup (das_cons dc_int das_nil) (by show 1 ≤ sizeLine; decide))
      (das_cons (dc_lst das_nil (by decide)) (das_cons dc_dict0 (das_cons dc_neg (das_cons (dc_pow ⟨by decide, by decide, by decide⟩) das_nil))))))))))))) (pe_call GT hr (by rfl) gT FT.kp bT .nil pass0 (pa_cons (pv 0) (pa_cons pe_int pa_nil))) (fun _ _ => rfl))), ?_⟩
    refine ⟨G, e, fun vs G1 H1 n1 d1 => ⟨by rw [d1.len]; show 12 ≤ sizeLine; decide, fun l nl => ?_⟩⟩
    have s1 : Same H (upd H1 l (.lst vs)) := n1.hh.trans (Same.upd nl)
    refine ⟨_, rfl, p, 12, t, rfl, by decide, by decide, hP.same s1 (Nat.le_refl _), ht, fun m H2 m0 m1 b2 P2 => ?_⟩
    have hl : l ≠ p := pen_not (hP.same n1.hh (Nat.le_refl _)) nl
    have hv : vs.length = 12 := d1.len
    have hm : m.toNat < vs.length := by omega
    obtain ⟨d, hd, dq⟩ := d1.get (List.getElem?_eq_getElem hm)
    have np1 : G1 p = none := by rw [n1.old p hP.some]; exact np
    refine ⟨l, vs, m, vs[m.toNat], rfl, rfl, SqL.of (b2 _ _ hl upd_same), ?_, ?_⟩
    · exact at_of (show m = ((m.toNat : Nat) : Int) by omega) (List.getElem?_eq_getElem hm)
    · refine k _ d G1 H2 ⟨n1.gg, same_but (n1.gh.trans (Same.upd nl)) np1 b2, (But.of s1).trans b2, n1.old⟩ P2 dq ?_
      exact List.mem_of_getElem? hd
end
end My

namespace My
open PySem PySem.Spec PyProof.Rows L2
/-! ### the law's own call: what runs around it is known (no repr is under way) -/
def AtTop (P : Program) (w : World) (K : PySem.W.Frag) (mg : Str → Option Value) (base : Heap) (fa : Addr) (fd : FuncData) (ps : List Str) (sp : Sp) : Prop :=
  ∀ (out : List Env) (s : Shared) (H : Hp) (args : Args) (us : List Value) (vs : List V) (Q : VK) (E : XK), Env0 P w K mg base callerA out s H → BindsTo s fd args (ps.zip us) → Vals vs us → sp vs H Q E → codeAny (model P w) callerA (.call (.ref fa) args) (CR CX0 out P w H s Q E) s
theorem top_ok {P : Program} {w : World} {K : PySem.W.Frag} {mg : Str → Option Value} {base : Heap} {x qual : Str} {st : Stmt} {f : Addr} {fd : FuncData} {N ps : List Str} {k : Nat} {sp : Sp} (F : Fun K x qual st f fd) (S : FnScope N ps (defScope st)) (len : ∀ vs H Q E, sp vs H Q E → vs.length = ps.length) (hr : Room (k + 1) callerA)
    (hbody : ∀ (cdv : Value) (out : List Env) (s : Shared) (H : Hp) (vs : List V) (Q : VK) (E : XK), Room k (callerA.deeper (envOfC qual (defScope st) s.heap.objs.size f cdv)) → sp vs H Q E →
      ∃ t, PSs (cxOf CX0 P w K mg base N qual (defScope st) f cdv callerA out s H E).nox (defBody st) t ∧ t { nx := fun _ H' => Q .non H', rt := Q } (start N vs) H) : AtTop P w K mg base f fd ps sp := by
  obtain ⟨oc, od, kV, doc, pm, an, cdv, ct, osl, rfl, lk, hcd⟩ := F.ex
  intro out s H args us vs Q E e0 hb r hsp
  have hl := len _ _ _ _ hsp
  have KI : K.In s.heap := e0.mod.kin.keeps fun b o e => (e0.bs b o e).1
  have nl : s.heap.NoLimit := e0.mod.nolimit.keeps fun b o e => (e0.bs b o e).1
  have hk : ∀ y ∈ ps.zip us, (defScope st).names.lookup y.1 = some .local ∨ ((defScope st).names.lookup y.1 = some .cell ∧ ((cellsFrom (s.heap.objs.size + 1) (defScope st).names []).lookup y.1).isSome = true) := fun ⟨n, v⟩ hy => by
    rcases S.par n (List.of_mem_zip hy).1 with q | q
    · exact .inl q
    · exact .inr ⟨q, PySem.W.cellsFrom_some _ _ _ (.inl q)⟩
  refine codeAny_call_function hr.depth (KI _ _ lk) rfl S.co S.gen rfl (PySem.W.codeRec_of KI hcd) (hb _ _ _ _ ?_)
  refine wpAny_newFunctionEnv_cells S.kind hk fun env he s1 x => ?_
  subst he; refine ⟨nl.keeps x.toInCall.keep, codeAny_func ?_⟩
  obtain ⟨t, ht, hq⟩ := hbody cdv out s H vs Q E (hr.deeper _) hsp
  have I : Inv (cxOf CX0 P w K mg base N qual (defScope st) f cdv callerA out s H E) [] (start N vs) H s1 := inv_start S hr.hd e0 hl r x
  refine wpAny_mono (ht.nox.run [] s1 (start N vs) H _ I hq) (fun fl s' hs => ?_) fun e s' hs => hs
  have fin : ∀ {σ' : L2.St} {H' : Hp} {v : V} {u : Value}, Inv (cxOf CX0 P w K mg base N qual (defScope st) f cdv callerA out s H E) [] σ' H' s' → RelV v u → Q v H' → CE out P w H s Q u s' := fun {σ' H' v u} J rv q => ⟨v, H', J.os, J.bare, J.base, J.hok, rv, q⟩
  cases fl with
  | ret u => obtain ⟨v, σ', H', J, rv, q⟩ := hs; exact fin J rv q
  | next => obtain ⟨σ', H', J, q⟩ := hs; exact fin (v := V.non) (u := Value.none) J rfl q
  | brk => obtain ⟨_, _, _, q⟩ := hs; exact False.elim q
  | cont => obtain ⟨_, _, _, q⟩ := hs; exact False.elim q
theorem top_call {P : Program} {w : World} {K : PySem.W.Frag} {mg mb : Str → Option Value} {fa a : Addr} {fd : FuncData} {x : Str} {sp : Sp} {s₁ : Shared} {us : List Value} {ns : List Int}
    (KX : K.In s₁.heap) (hn : s₁.heap.Ns mainGlobals mg) (hb : s₁.heap.Ns builtinsNs mb) (hbb : ∀ x : Str, x ≠ "__name__" → mb x = bootBuiltins x) (hlim : s₁.heap.NoLimit) (hg : s₁.gens = #[])
    (ha : s₁.heap.get? a = some { cls := .type "list", data := .seq us.toArray }) (hi : IntsAre us ns) (hl : ns.length ≤ sizeLine)
    (F : ∀ base : Heap, K.In base → base.Ns mainGlobals mg → AtTop P w K mg base fa fd [x] sp) (hbind : ∀ (s : Shared) (u : Value), BindsTo s fd ⟨[u], []⟩ [(x, u)])
    (hsp : ∀ H : Hp, Only H → SqL K H a (ns.map V.int) → sp [.ref a] H (fun v _ => v = .bl true) fun _ _ _ => False) :
    codeAny (model P w) callerA (.call (.ref fa) ⟨[.ref a], []⟩) (fun r s' => r = .ok (.ret (.bool true)) ∧ OldK s₁.heap s'.heap ∧ s'.os = s₁.os ∧ AllBare s'.gens) s₁ := by
  have rv := vals_ints hi
  have lenV := hi.length
  have main : ∀ H : Hp, Only H → SqL K H a (ns.map V.int) → HOk P w H s₁.heap → (∀ b, H b ≠ none → b = a) → (H a ≠ none → K.lookup a = none) →
      codeAny (model P w) callerA (.call (.ref fa) ⟨[.ref a], []⟩) (fun r s' => r = .ok (.ret (.bool true)) ∧ OldK s₁.heap s'.heap ∧ s'.os = s₁.os ∧ AllBare s'.gens) s₁ := by
    intro H hO hS hok hA hK
    have free : ∀ b : Addr, b ≠ a → H b = none := fun b n => by
      cases q : H b with
      | none => rfl
      | some u => exact absurd (hA b (by rw [q]; simp)) n
    have noA : ∀ {b : Addr} {o : Obj} {es : Array DictEntry} {ep : Nat}, s₁.heap.get? b = some o → o.data = .dict es ep → H b = none := fun {b o es ep} e d => free b fun z => by
      rw [z, ha] at e; cases e
      exact absurd (show Data.seq us.toArray _ = Data.dict es ep from d) (fun z => nomatch z)
    have nsK : ∀ {b : Addr} {m : Str → Option Value}, s₁.heap.Ns b m → (hidT s₁.heap H).Ns b m := fun {b m} ⟨o, es, ep, e, d, r⟩ => ⟨o, es, ep, hidT_get e (noA e d), d, r⟩
    have hKb : K.In (hidT s₁.heap H) := fun b o e => hidT_get (KX b o e) (by
      cases q : H b with
      | none => rfl
      | some u =>
        have z : b = a := hA b (by rw [q]; simp)
        rw [z] at e q
        rw [hK (by rw [q]; simp)] at e; cases e)
    have hM : Mod K mg (hidT s₁.heap H) := ⟨hKb, nsK hn, ⟨mb, nsK hb, hbb⟩, let ⟨mc, h1, h2⟩ := hlim; ⟨mc, nsK h1, h2⟩⟩
    have e0 : Env0 P w K mg (hidT s₁.heap H) callerA [] s₁ H := ⟨rfl, hM, fun b o e => of_hidT e, Nat.le_of_eq (hidT_size _ _), trivial, fun b hb => (nomatch (show b ∈ ([] : List Addr) from hb)), hok, .of_eq hg⟩
    refine codeAny_mono (F _ hKb (nsK hn) [] s₁ H ⟨[.ref a], []⟩ [.ref a] [.ref a] _ _ e0 (hbind s₁ (.ref a)) (.cons rfl .nil) (hsp H hO hS)) fun r s' h => ?_
    cases r with
    | error e => exact False.elim h
    | ok fl =>
      cases fl with
      | next => exact False.elim h
      | brk => exact False.elim h
      | cont => exact False.elim h
      | ret u =>
        obtain ⟨v, H', os, bare, un, hok', r', q⟩ := h
        obtain rfl : v = .bl true := q
        obtain rfl : u = Value.bool true := r'
        refine ⟨rfl, OldK.of_keep fun b o e => ?_, os, bare⟩
        cases q : H b with
        | none => exact un.keep b o e q (fun z => nomatch (show b ∈ ([] : List Addr) from z)) (by simp)
        | some u =>
          rcases hO b with z | ⟨ob, xs, z⟩
          · rw [q] at z; cases z
          · obtain ⟨e1, _⟩ := hok b _ z
            obtain ⟨e2, _⟩ := hok' b _ (un.frzs b ob _ z)
            rw [e] at e1; cases e1; exact e2
  cases hk : K.lookup a with
  | some o =>
    have e := KX a o hk
    rw [ha] at e; cases e
    exact main (fun _ => none) (fun _ => .inl rfl) (.inr ⟨_, us.toArray, _, hk, rfl, rfl, rfl, by rw [List.size_toArray, lenV]; exact hl, by simpa using rv⟩) (fun b u z => nomatch (show (none : Option HO) = some u from z)) (fun b z => absurd rfl z) fun z => absurd rfl z
  | none =>
    refine main (fun b => if b = a then some (.frz { cls := .type "list", data := .seq us.toArray } (.lst (ns.map V.int))) else none) (fun b => ?_) (.inl (.inr ⟨{ cls := .type "list", data := .seq us.toArray }, if_pos rfl⟩)) (fun b u z => ?_) (fun b z => ?_) fun _ => hk
    · by_cases hb : b = a
      · exact .inr ⟨_, _, if_pos hb⟩
      · exact .inl (if_neg hb)
    · by_cases hb : b = a
      · have z' := (if_pos hb).symm.trans z
        cases z'; subst hb
        exact ⟨ha, by rw [List.length_map]; exact hl, us, _, rv, ha⟩
      · exact nomatch ((if_neg hb).symm.trans z)
    · by_cases hb : b = a
      · exact hb
      · exact absurd (if_neg hb) z
theorem walk_top {l : PySem.W.OpenLaw} {n : Nat} {q : Program} {loose : List Str} {XP : (Str → Option Value) → Heap → Prop} {YP : World → Heap → Prop} {d : DefRec} {K : Params → PySem.W.Frag} {sp : World → Sp} {x : Str}
    (hn : l.most = some n) (hn2 : n ≤ sizeLine) (hdf : d.params.defaults = []) (hY : ∀ (w : World) (h : Heap), YP w h → (K w.params).In h)
    (F : ∀ (w : World) (mg : Str → Option Value) (fa : Addr) (h : Heap), (K w.params).In h → h.Ns mainGlobals mg → mg d.name = some (.ref fa) →
      ∃ fd : FuncData, (∀ (s : Shared) (u : Value), BindsTo s fd ⟨[u], []⟩ [(x, u)]) ∧ ∀ base : Heap, (K w.params).In base → base.Ns mainGlobals mg → AtTop l.prog w (K w.params) mg base fa fd [x] (sp w))
    (hsp : ∀ (w : World) (H : Hp) (a : Addr) (ns : List Int), ns.length ≤ n → Only H → SqL (K w.params) H a (ns.map V.int) → sp w [.ref a] H (fun v _ => v = .bl true) fun _ _ _ => False) :
    PySem.W.WalkO q loose XP YP l.row.toRowW d [] (fun f vs => PySem.call f vs) := by
  refine Att.attach_call hn hdf fun w s₀ s₁ mg mb fa o pm cd doc a us ns G Y ho hd hcd hmg hobj hints hlen hg => ?_
  obtain ⟨fd, hb, hF⟩ := F w mg fa _ (hY w _ Y) G.T.g hmg
  exact top_call (hY w _ Y) G.T.g G.T.b G.T.builtins G.T.nolimit hg hobj hints (Nat.le_trans hlen hn2) hF hb fun H hO hS => hsp w H a ns hlen hO hS
end My

namespace My
open PySem PySem.Spec PyProof.Rows L2
abbrev sLaw : Stmt := topS 13
def spLaw (K : PySem.W.Frag) : Sp := fun vs H Q _ => ∃ (a : Addr) (ns : List Int), vs = [.ref a] ∧ SqL K H a (ns.map V.int) ∧ ns.length ≤ 63 ∧ ∀ H', Q (.bl true) H'
structure TxL (mg : Str → Option Value) : Prop where
  range : mg "range" = none
  tuple : mg "tuple" = none
  sorted : mg "sorted" = none
  max : mg "max" = none
  list : mg "list" = none
  repr : mg "repr" = none
theorem fine_fits {d : PyData} (h : Fine d) : d.shown.length ≤ sizeLine := by
  have := h.ln
  rw [sizeLine_eq]; omega
theorem shown_bool (b : Bool) : (PyData.bool b).shown.length ≤ sizeLine := by cases b <;> decide +kernel
theorem same0 (H : Hp) : Same (fun _ => none) H := fun _ _ h => nomatch h
theorem sIx2 (k : Int) (h0 : 0 ≤ k) (d : Nat) : HT.sIx 2 d (some k) = min k.toNat 2 := by
  obtain ⟨j, rfl⟩ : ∃ j : Nat, k = (j : Int) := ⟨k.toNat, by omega⟩
  rw [sIx_nat]; simp
theorem red_small {a b : Int} (a0 : 0 ≤ a) (ha : a.natAbs < 2 ^ 1900) : (a / b).natAbs < 2 ^ 1900 := by
  refine Nat.lt_of_le_of_lt ?_ ha
  rw [Int.natAbs_ediv_of_nonneg a0] 
  exact Nat.div_le_self _ _
theorem _root_.L2.Room.repr {k : Nat} {A : Around} (r : Room k A) : A.units + 111 < cLine := by have := r.un; omega
theorem some_ne {H : Hp} {b : Addr} {o : HO} (h : H b = some o) : H b ≠ none := by rw [h]; exact fun z => nomatch z
/-- the pen and what stands, at a turn of the inner loop -/
structure Mid (K : PySem.W.Frag) (p : Addr) (n m : Nat) (t : Addr) (H : Hp) (xs : List V) (ds : List PyData) (G : Hp) : Prop where
  ne : t ≠ p
  at_t : H t = some (.lst xs)
  gt : G t = none
  gp : G p = none
  gh : Same G H
  dq : DqAll K G xs ds
  fine : ∀ d ∈ ds, Fine d
  len : xs.length ≤ m
  pen : PenAt H p n
section
variable {P : Program} {w : World} {K : PySem.W.Frag} {mg : Str → Option Value} {base : Heap}
theorem scLaw : FnScope ["script", "pen", "turn", "things", "k", "most", "pair", "low", "good", "at", "thing", "before"] ["script"] (defScope sLaw) := ⟨rfl, rfl, rfl, by decide +kernel, rfl, by decide +kernel, by decide +kernel⟩
theorem ok_law {f fO fT fR fF fL fD : Addr} {fd fdO fdT fdR fdF fdL fdD : FuncData} (F : Fun K "law" "law" sLaw f fd) (T : TxL mg)
    (FO : Fun K "_law_open" "_law_open" sOpen fO fdO) (GO : FnOk P w K mg base CX0 1 fO fdO ["script"] (spOpen K)) (bO : Binds K fdO ["script"] []) (gO : mg "_law_open" = some (.ref fO))
    (FT : Fun K "_law_take" "_law_take" sTake fT fdT) (GT : FnOk P w K mg base CX0 2 fT fdT ["pen", "many"] spTake) (bT : Binds K fdT ["pen", "many"] []) (gT : mg "_law_take" = some (.ref fT))
    (FR : Fun K "_law_reduced" "_law_reduced" sRed fR fdR) (GR : FnOk P w K mg base CX0 1 fR fdR ["top", "whole"] spRed) (bR : Binds K fdR ["top", "whole"] []) (gR : mg "_law_reduced" = some (.ref fR))
    (FF : Fun K "is_fraction" "is_fraction" sIsF fF fdF) (GF : FnOk P w K mg base CX0 2 fF fdF ["thing"] (spIsF K)) (bF : Binds K fdF ["thing"] []) (gF : mg "is_fraction" = some (.ref fF))
    (FL : Fun K "_law_is_fraction" "_law_is_fraction" sLIsF fL fdL) (GL : FnOk P w K mg base CX0 2 fL fdL ["thing"] (spLIsF K)) (bL : Binds K fdL ["thing"] []) (gL : mg "_law_is_fraction" = some (.ref fL))
    (FD : Fun K "_law_odd" "_law_odd" sOdd fD fdD) (GD : FnOk P w K mg base CX0 3 fD fdD ["pen"] (spOdd K)) (bD : Binds K fdD ["pen"] []) (gD : mg "_law_odd" = some (.ref fD)) :
    AtTop P w K mg base f fd ["script"] (spLaw K) := by
  refine top_ok (k := 3) F scLaw (fun vs H Q E h => ?_) ⟨rfl, by decide, by decide⟩ (fun cdv out s H vs Q E hr h => ?_)
  · obtain ⟨a, ns, rfl, _⟩ := h
    rfl
  · obtain ⟨a, ns, rfl, hS, hlen, k⟩ := h
    have hr1 : Room 1 _ := hr.mono (by decide)
    have hr2 : Room 2 _ := hr.mono (by decide)
    refine ⟨_, (pss_cons (ps_set (i := 1) scLaw.nd rfl (Or.inl rfl) (pe_call GO hr1 (by rfl) gO FO.kp bO .nil pass0 (pa_cons (pv 0) pa_nil)))
      (pss_cons (ps_for PassesOwn.never rfl (pi_range1 (by rfl) T.range (pa_cons pe_int pa_nil)) (pg_name (i := 2) scLaw.nd rfl (Or.inl rfl)) (pss_cons (ps_set (i := 3) scLaw.nd rfl (Or.inl rfl) (pe_lst (das_cons (dc_tup (das_cons dc_int (das_cons dc_int das_nil)) (by show 2 ≤ sizeLine; decide)) (das_cons (dc_tup (das_cons dc_int (das_cons dc_int das_nil)) (by show 2 ≤ sizeLine; decide)) (das_cons (dc_tup (das_cons dc_int (das_cons dc_int das_nil)) (by show 2 ≤ sizeLine; decide)) (das_cons (dc_tup (das_cons dc_int (das_cons dc_int das_nil)) (by show 2 ≤ sizeLine; decide)) (das_cons (dc_tup (das_cons dc_int (das_cons dc_int das_nil)) (by show 2 ≤ sizeLine; decide)) (das_cons (dc_tup (das_cons dc_int (das_cons dc_int das_nil)) (by show 2 ≤ sizeLine; decide)) (das_cons (dc_tup (das_cons dc_int (das_cons dc_int das_nil)) (by show 2 ≤ sizeLine; decide)) (das_cons (dc_tup (das_cons dc_neg (das_cons dc_int das_nil)) (by show 2 ≤ sizeLine; decide)) (das_cons (dc_tup (das_cons dc_int (das_cons dc_neg das_nil)) (by show 2 ≤ sizeLine; decide)) (das_cons (dc_tup (das_cons dc_neg (das_cons dc_neg das_nil)) (by show 2 ≤ sizeLine; decide)) (das_cons (dc_tup das_nil (by show 0 ≤ sizeLine; decide)) das_nil)))))))))))))
      (pss_cons (ps_set (i := 3) scLaw.nd rfl (Or.inl rfl) (pe_op op_cat (pv 3) (pe_lst (das_cons dc_non (das_cons dc_int (das_cons dc_int (das_cons dc_bl (das_cons dc_str (das_cons dc_str (das_cons dc_str (das_cons dc_str (das_cons dc_dict0 (das_cons dc_dict01 (das_cons (dc_lst das_nil (by show 0 ≤ sizeLine; decide)) (das_cons (dc_lst (das_cons dc_int (das_cons dc_int das_nil)) (by show 2 ≤ sizeLine; decide)) (das_cons (dc_tup (das_cons (dc_tup (das_cons dc_int (das_cons dc_int das_nil)) (by show 2 ≤ sizeLine; decide)) (das_cons (dc_tup (das_cons dc_int (das_cons dc_int das_nil)) (by show 2 ≤ sizeLine; decide)) das_nil)) (by show 2 ≤ sizeLine; decide)) das_nil))))))))))))))))
      (pss_cons (ps_for PassesOwn.never rfl (pi_range1 (by rfl) T.range (pa_cons pe_int pa_nil)) (pg_name (i := 4) scLaw.nd rfl (Or.inl rfl)) (pss_cons (ps_set (i := 5) scLaw.nd rfl (Or.inl rfl) (pe_ix ix_list (pe_lst (pa_cons pe_int (pa_cons pe_int (pa_cons (pe_op op_pow pe_int pe_int) pa_nil)))) (pe_call GT hr2 (by rfl) gT FT.kp bT .nil pass0 (pa_cons (pv 1) (pa_cons pe_int pa_nil))) (fun _ _ => rfl)))
      (pss_cons (ps_set (i := 6) scLaw.nd rfl (Or.inl rfl) (pe_tup (pa_cons (pe_call GT hr2 (by rfl) gT FT.kp bT .nil pass0 (pa_cons (pv 1) (pa_cons (pv 5) pa_nil))) (pa_cons (pe_call GT hr2 (by rfl) gT FT.kp bT .nil pass0 (pa_cons (pv 1) (pa_cons (pv 5) pa_nil))) pa_nil))))
      (pss_cons (ps_set (i := 7) scLaw.nd rfl (Or.inl rfl) (pe_callTy call_tuple_of (by rfl) T.tuple boot_tuple (pa_cons (pe_callB cr_sortedTup (by rfl) T.sorted boot_sorted (pa_cons (pv 6) pa_nil)) pa_nil)))
      (pss_cons (ps_set (i := 8) scLaw.nd rfl (Or.inl rfl) (pe_call GR hr1 (by rfl) gR FR.kp bR .nil pass0 (pa_cons (pe_ix ix_tup (pv 7) pe_int (fun _ _ => rfl)) (pa_cons (pe_callB (call_max2 rfl) (by rfl) T.max boot_max (pa_cons pe_int (pa_cons (pe_ix ix_tup (pv 7) pe_int (fun _ _ => rfl)) pa_nil))) pa_nil))))
      (pss_cons (ps_set (i := 9) scLaw.nd rfl (Or.inl rfl) (pe_call GT hr2 (by rfl) gT FT.kp bT .nil pass0 (pa_cons (pv 1) (pa_cons pe_int pa_nil))))
      (pss_cons (ps_set (i := 3) scLaw.nd rfl (Or.inl rfl) (pe_op op_cat (pv 3) (pe_lst (pa_cons (pv 6) (pa_cons (pv 7) (pa_cons (pv 8) (pa_cons (pe_revT (pv 8)) (pa_cons (pe_callTy call_list_of (by rfl) T.list boot_list (pa_cons (pv 8) pa_nil)) (pa_cons (pe_op op_catA (pv 8) (pe_tup (pa_cons pe_int pa_nil))) (pa_cons (pe_slice sl_tupA (pv 8) po_none (po_some pe_int)) (pa_cons (pe_tup (pa_cons (pv 8) pa_nil)) pa_nil)))))))))))
      (pss_one (ps_expr (pe_bm PySem.F.plainAttrs_list PySem.F.slot_list_append PySem.F.type_list_append mt_append (pv 3) (pa_cons (pe_op op_catA (pe_op op_catA (pe_slice sl_tupA (pv 8) po_none (po_some (pv 9))) (pe_tup (pa_cons (pe_call GD hr (by rfl) gD FD.kp bD .nil pass0 (pa_cons (pv 1) pa_nil)) pa_nil))) (pe_slice sl_tupA (pv 8) (po_some (pe_op op_add (pv 9) pe_int)) po_none)) pa_nil)))))))))))
      (pss_one (ps_for PassesOwn.never rfl (pi_list (pv 3)) (pg_name (i := 10) scLaw.nd rfl (Or.inl rfl)) (pss_cons (ps_set (i := 11) scLaw.nd rfl (Or.inl rfl) (pe_callB (cr_repr rfl hr.repr) (by rfl) T.repr boot_repr (pa_cons (pv 10) pa_nil)))
      (pss_one (ps_if (PW.pt (pw_or (pt_cmpR op_ne (pe_callB (cr_repr rfl hr.repr) (by rfl) T.repr boot_repr (pa_cons (pe_call GF hr2 (by rfl) gF FF.kp bF .nil pass0 (pa_cons (pv 10) pa_nil)) pa_nil)) (pe_callB (cr_repr rfl hr.repr) (by rfl) T.repr boot_repr (pa_cons (pe_call GL hr2 (by rfl) gL FL.kp bL .nil pass0 (pa_cons (pv 10) pa_nil)) pa_nil)) (nomark _)) (pw_or1 (pt_cmpR op_ne (pe_callB (cr_repr rfl hr.repr) (by rfl) T.repr boot_repr (pa_cons (pv 10) pa_nil)) (pv 11) (nomark _))))) (pss_one (ps_ret pe_bl)) pss_nil)))))))))
      (pss_one (ps_ret pe_bl)))), ?_⟩
    refine ⟨_, rfl, a, ns, rfl, hS, hlen, fun p H1 np s1 P1 => ?_⟩
    refine ⟨6, rfl, by decide, by decide, for_range (n := 6) (fun i σ H2 => ∃ (x2 x3 x4 x5 x6 x7 x8 x9 x10 x11 : Option V), σ = [some (.ref a), some (.ref p), x2, x3, x4, x5, x6, x7, x8, x9, x10, x11] ∧ PenAt H2 p (20 * i)) ⟨none, none, none, none, none, none, none, none, none, none, rfl, P1⟩ ?_ ?_⟩
    · rintro i σ H2 hi ⟨x2, x3, x4, x5, x6, x7, x8, x9, x10, x11, rfl, P2⟩
      -- the written things
      refine ⟨fun _ => none, same0 H2, fun vs1 G1 H3 n1 d1 => ⟨by rw [d1.len]; show 11 ≤ sizeLine; decide, fun t1 nt1 => ?_⟩⟩
      have P3 := P2.same n1.hh (Nat.le_refl _)
      refine ⟨_, rfl, G1, n1.gh.trans (Same.upd nt1), fun vs2 G2 H4 n2 d2 => ⟨by rw [d2.len]; show 13 ≤ sizeLine; decide, fun t2 nt2 => ?_⟩⟩
      have P4 := (P3.same (Same.upd nt1) (Nat.le_refl _)).same n2.hh (Nat.le_refl _)
      have h12 : t1 ≠ t2 := ne_of_none (n2.hh _ _ upd_same) nt2
      refine ⟨t1, t2, vs1, vs2, rfl, rfl, (by rw [upd_ne h12]; exact n2.hh _ _ upd_same), upd_same, (by rw [d1.len, d2.len]; show 24 ≤ sizeLine; decide), fun t nt => ?_⟩
      have st2 : Same G2 (upd (upd H4 t2 (.lst vs2)) t (.lst (vs1 ++ vs2))) := (n2.gh.trans (Same.upd nt2)).trans (Same.upd nt)
      have P5 := (P4.same (Same.upd nt2) (Nat.le_refl _)).same (Same.upd (o := .lst (vs1 ++ vs2)) nt) (Nat.le_refl _)
      have gp2 : G2 p = none := by
        rw [n2.old p (P3.same (Same.upd nt1) (Nat.le_refl _)).some]
        have e := n1.old p P2.some
        exact e
      have gt2 : G2 t = none := (n2.gh.trans (Same.upd (o := .lst vs2) nt2)).free nt
      have M0 : Mid K p (20 * i + 5 * 0) (24 + 9 * 0) t _ (vs1 ++ vs2) (consts1 ++ consts2) G2 :=
        ⟨pen_not (P4.same (Same.upd (o := .lst vs2) nt2) (Nat.le_refl _)) nt, upd_same, gt2, gp2, st2, (d1.mono n2.gg).append d2, consts_fine, by rw [List.length_append, d1.len, d2.len]; decide, P5⟩
      -- four pairs
      refine ⟨4, rfl, by decide, by decide, for_range (n := 4) (fun j σ H5 => ∃ (y4 y5 y6 y7 y8 y9 y10 y11 : Option V) (t : Addr) (xs : List V) (ds : List PyData) (G : Hp), σ = [some (.ref a), some (.ref p), some (.int (0 + (i : Int))), some (.ref t), y4, y5, y6, y7, y8, y9, y10, y11] ∧ Mid K p (20 * i + 5 * j) (24 + 9 * j) t H5 xs ds G)
        ⟨_, _, _, _, _, _, _, _, t, _, _, G2, rfl, M0⟩ ?_ ?_⟩
      · rintro j σ H5 hj ⟨y4, y5, y6, y7, y8, y9, y10, y11, t, xs, ds, G, rfl, M⟩
        have hi2 : (20 * i + 5 * j + 5 : Nat) < 2 ^ 29 := by omega
        -- most
        refine ⟨_, _, rfl, rfl, ⟨by decide, by decide, by decide⟩, (by show 3 ≤ sizeLine; decide), fun l nl => ?_⟩
        refine ⟨_, rfl, p, 3, _, rfl, by decide, by decide, M.pen.same (Same.upd nl) (Nat.le_refl _), by omega, fun m0 H6 m00 m01 b6 P6 => ?_⟩
        have lp : l ≠ p := pen_not M.pen nl
        obtain ⟨most, hmost, most0, mostb⟩ : ∃ z : Int, atI [V.int 12, V.int 1000, V.int (10 ^ (30 : Int).toNat)] m0 = some (.int z) ∧ 0 < z ∧ z ≤ 10 ^ (30 : Int).toNat := by
          have h : m0 = 0 ∨ m0 = 1 ∨ m0 = 2 := by omega
          rcases h with rfl | rfl | rfl
          · exact ⟨_, rfl, by decide, by decide⟩
          · exact ⟨_, rfl, by decide, by decide⟩
          · exact ⟨_, rfl, by decide, by decide⟩
        have mostn : most.natAbs < 2 ^ 8000 := Nat.lt_of_le_of_lt (show most.natAbs ≤ ((10 : Int) ^ (30 : Int).toNat).natAbs by omega) (big_of thirty)
        refine ⟨l, _, m0, _, rfl, rfl, SqL.of (b6 _ _ lp upd_same), hmost, ?_⟩
        -- pair
        refine ⟨_, rfl, _, rfl, p, most, _, rfl, most0, mostn, P6, by omega, fun u1 H7 u10 u11 b7 P7 => ?_⟩
        refine ⟨_, rfl, _, rfl, p, most, _, rfl, most0, mostn, P7, by omega, fun u2 H8 u20 u21 b8 P8 => ?_⟩
        have u1s : u1.natAbs < 2 ^ 1900 := Nat.lt_of_le_of_lt (show u1.natAbs ≤ ((10 : Int) ^ (30 : Int).toNat).natAbs by omega) thirty
        have u2s : u2.natAbs < 2 ^ 1900 := Nat.lt_of_le_of_lt (show u2.natAbs ≤ ((10 : Int) ^ (30 : Int).toNat).natAbs by omega) thirty
        have bt8 : But p H5 H8 := (((But.of (Same.upd nl)).trans b6).trans b7).trans b8
        refine ⟨(by show 2 ≤ sizeLine; decide), fun pr npr => ?_⟩
        have g8 : Same G H8 := same_but M.gh M.gp bt8
        have nw1 := Nw.mk1 g8 npr (.tup [.int u1, .int u2])
        -- low
        refine ⟨_, rfl, pr, [u1, u2], rfl, SqT.of upd_same, (by show 2 < 64; decide), fun ms q hperm hpw nq => ?_⟩
        obtain ⟨w1, w2, rfl⟩ : ∃ w1 w2, ms = [w1, w2] := by
          have := hperm.length_eq
          match ms, this with
          | [a, b], _ => exact ⟨a, b, rfl⟩
        have w1m : w1 ∈ [u1, u2] := hperm.mem_iff.mp (by simp)
        have w2m : w2 ∈ [u1, u2] := hperm.mem_iff.mp (by simp)
        have wb : ∀ z ∈ [u1, u2], 0 ≤ z ∧ z.natAbs < 2 ^ 1900 := by
          intro z hz
          rcases List.mem_cons.mp hz with rfl | hz
          · exact ⟨u10, u1s⟩
          · rcases List.mem_cons.mp hz with rfl | hz
            · exact ⟨u20, u2s⟩
            · cases hz
        obtain ⟨w10, w1s⟩ := wb w1 w1m
        obtain ⟨w20, w2s⟩ := wb w2 w2m
        refine ⟨q, _, rfl, .inl ⟨SqL.of upd_same, fun lw nlw => ?_⟩⟩
        have nw2 := Nw.mk1 (nw1.gh.trans (Same.upd (o := .lst [.int w1, .int w2]) nq)) nlw (.tup [.int w1, .int w2])
        -- good
        have hmx : 0 < (if w2 > 1 then w2 else 1) ∧ (if w2 > 1 then w2 else 1).natAbs < 2 ^ 1900 := by
          by_cases h : w2 > 1
          · rw [if_pos h]; exact ⟨by omega, w2s⟩
          · rw [if_neg h]; exact ⟨by decide, by decide +kernel⟩
        have hif : (if w2 > 1 then w2 else 1) = (if w2 > 1 then w2 else 1) := rfl
        refine ⟨_, rfl, lw, _, 0, .int w1, rfl, rfl, SqT.of upd_same, atI_nat (j := 0) rfl, _, rfl, lw, _, 1, .int w2, rfl, rfl, SqT.of upd_same, atI_nat (j := 1) rfl, _, _, rfl, _, _, rfl, w10, hmx.1, big_of hmx.2, fun gd ngd => ?_⟩
        obtain ⟨A, hA⟩ : ∃ z, w1 / gN w1 (if w2 > 1 then w2 else 1) = z := ⟨_, rfl⟩
        obtain ⟨B, hB⟩ : ∃ z, (if w2 > 1 then w2 else 1) / gN w1 (if w2 > 1 then w2 else 1) = z := ⟨_, rfl⟩
        have As : A.natAbs < 2 ^ 1900 := by rw [← hA]; exact red_small w10 w1s
        have Bs : B.natAbs < 2 ^ 1900 := by rw [← hB]; exact red_small (by omega) hmx.2
        rw [hA, hB] at *
        have nw3 := Nw.mk1 nw2.gh ngd (.tup [.int A, .int B])
        -- at
        have Pa := (((P8.same nw1.hh (Nat.le_refl _)).same (Same.upd (o := .lst [.int w1, .int w2]) nq) (Nat.le_refl _)).same nw2.hh (Nat.le_refl _)).same nw3.hh (Nat.le_refl _)
        refine ⟨_, rfl, p, 2, _, rfl, by decide, by decide, Pa, by omega, fun at0 H9 at00 at01 b9 P9 => ?_⟩
        obtain ⟨G3, g3p, g3t, g3h, dqs, dpr, dlw, hgd, ht9⟩ : ∃ G3 : Hp, G3 p = none ∧ G3 t = none ∧ Same G3 H9 ∧ DqAll K G3 xs ds ∧ Dq K G3 (.ref pr) (.tuple [.int u1, .int u2]) ∧ Dq K G3 (.ref lw) (.tuple [.int w1, .int w2]) ∧ G3 gd = some (.tup [.int A, .int B]) ∧ H9 t = some (.lst xs) := by
          have e1 : H8 t = some (.lst xs) := bt8 _ _ M.ne M.at_t
          have e2 := nw1.hh _ _ e1
          have e3 := Same.upd (o := .lst [.int w1, .int w2]) nq _ _ e2
          have e4 := nw2.hh _ _ e3
          have e5 := nw3.hh _ _ e4
          have q1 := P8.same nw1.hh (Nat.le_refl _)
          have q2 := q1.same (Same.upd (o := .lst [.int w1, .int w2]) nq) (Nat.le_refl _)
          have q3 := q2.same nw2.hh (Nat.le_refl _)
          have z1 : (upd G pr (.tup [.int u1, .int u2])) p = none := by rw [nw1.old p P8.some]; exact M.gp
          have z2 := (nw2.old p q2.some).trans z1
          have z3 := (nw3.old p q3.some).trans z2
          have y1 : (upd G pr (.tup [.int u1, .int u2])) t = none := by rw [nw1.old t (by rw [e1]; exact fun z => nomatch z)]; exact M.gt
          have y2 := (nw2.old t (by rw [e3]; exact fun z => nomatch z)).trans y1
          have y3 := (nw3.old t (by rw [e4]; exact fun z => nomatch z)).trans y2
          exact ⟨_, z3, y3, same_but nw3.gh z3 b9, M.dq.mono ((nw1.gg.trans nw2.gg).trans nw3.gg), .tup (nw3.gg _ _ (nw2.gg _ _ upd_same)) (.cons (.int _) (.cons (.int _) .nil)), .tup (nw3.gg _ _ upd_same) (.cons (.int _) (.cons (.int _) .nil)), upd_same, b9 _ _ M.ne e5⟩
        have h9gd := g3h _ _ hgd
        -- eight more things
        refine ⟨_, rfl, _, rfl, _, rfl, _, rfl, _, rfl, gd, _, rfl, SqT.of h9gd, fun r1 nr1 => ?_⟩
        have m1 := Nw.mk1 g3h nr1 (.tup [.int B, .int A])
        refine ⟨_, rfl, gd, _, rfl, .inr (SqT.of (m1.hh _ _ h9gd)), fun r2 nr2 => ?_⟩
        have m2 := m1.trans (Nw.mk1 m1.gh nr2 (.lst [.int A, .int B]))
        refine ⟨_, rfl, (by show 1 ≤ sizeLine; decide), fun r3 nr3 => ?_⟩
        have m3 := m2.trans (Nw.mk1 m2.gh nr3 (.tup [.int 1]))
        refine ⟨gd, r3, _, _, rfl, rfl, SqT.of (m3.hh _ _ h9gd), SqT.of upd_same, (by show 3 ≤ sizeLine; decide), (fun z => nomatch z), (fun _ z => nomatch z), fun _ _ r4 nr4 => ?_⟩
        have m4 := m3.trans (Nw.mk1 m3.gh nr4 (.tup [.int A, .int B, .int 1]))
        refine ⟨_, rfl, _, rfl, gd, _, rfl, SqT.of (m4.hh _ _ h9gd), (fun z => absurd z.2 (by show ¬ ((1 : Nat) = 2); decide)), fun _ r5 nr5 => ?_⟩
        have m5 := m4.trans (Nw.mk1 m4.gh nr5 (.tup [.int A]))
        refine ⟨_, rfl, (by show 1 ≤ sizeLine; decide), fun r6 nr6 => ?_⟩
        have m6 := m5.trans (Nw.mk1 m5.gh nr6 (.tup [.ref gd]))
        refine ⟨(by show 8 ≤ sizeLine; decide), fun l8 nl8 => ?_⟩
        have ht6 := m6.hh _ _ ht9
        have tl8 : t ≠ l8 := ne_of_none ht6 nl8
        refine ⟨t, l8, xs, _, rfl, rfl, (by rw [upd_ne tl8]; exact ht6), upd_same, (by have := M.len; rw [sizeLine_eq]; simp only [List.length_cons, List.length_nil]; omega), fun t2 nt2 => ?_⟩
        obtain ⟨G6, hG6⟩ : ∃ g, g = upd (upd (upd (upd (upd (upd G3 r1 (.tup [.int B, .int A])) r2 (.lst [.int A, .int B])) r3 (.tup [.int 1])) r4 (.tup [.int A, .int B, .int 1])) r5 (.tup [.int A])) r6 (.tup [.ref gd]) := ⟨_, rfl⟩
        have m6' := m6
        rw [← hG6] at m6'
        have XL : ∃ XS : List V, XS = xs ++ [.ref pr, .ref lw, .ref gd, .ref r1, .ref r2, .ref r4, .ref r5, .ref r6] := ⟨_, rfl⟩
        obtain ⟨XS, hXS⟩ := XL
        obtain ⟨DS, hDS⟩ : ∃ DS : List PyData, DS = ds ++ [.tuple [.int u1, .int u2], .tuple [.int w1, .int w2], .tuple [.int A, .int B], .tuple [.int B, .int A], .list [.int A, .int B], .tuple [.int A, .int B, .int 1], .tuple [.int A], .tuple [.tuple [.int A, .int B]]] := ⟨_, rfl⟩
        have hgd6 : G6 gd = some (.tup [.int A, .int B]) := m6'.gg _ _ hgd
        have dgd : Dq K G6 (.ref gd) (.tuple [.int A, .int B]) := .tup hgd6 (.cons (.int _) (.cons (.int _) .nil))
        have dXS : DqAll K G6 XS DS := by
          rw [hXS, hDS]
          refine (dqs.mono m6'.gg).append (.cons (dpr.mono m6'.gg) (.cons (dlw.mono m6'.gg) (.cons dgd ?_)))
          have c1 : Dq K G6 (.ref r1) (.tuple [.int B, .int A]) := Dq.mono (((((Nw.mk1 m1.gh nr2 _).gg.trans (Nw.mk1 m2.gh nr3 _).gg).trans (Nw.mk1 m3.gh nr4 _).gg).trans (Nw.mk1 m4.gh nr5 _).gg).trans (hG6 ▸ (Nw.mk1 m5.gh nr6 (.tup [.ref gd])).gg)) (.tup upd_same (.cons (.int _) (.cons (.int _) .nil)))
          have c2 : Dq K G6 (.ref r2) (.list [.int A, .int B]) := Dq.mono ((((Nw.mk1 m2.gh nr3 _).gg.trans (Nw.mk1 m3.gh nr4 _).gg).trans (Nw.mk1 m4.gh nr5 _).gg).trans (hG6 ▸ (Nw.mk1 m5.gh nr6 (.tup [.ref gd])).gg)) (.lst upd_same (.cons (.int _) (.cons (.int _) .nil)))
          have c4 : Dq K G6 (.ref r4) (.tuple [.int A, .int B, .int 1]) := Dq.mono ((Nw.mk1 m4.gh nr5 _).gg.trans (hG6 ▸ (Nw.mk1 m5.gh nr6 (.tup [.ref gd])).gg)) (.tup upd_same (.cons (.int _) (.cons (.int _) (.cons (.int _) .nil))))
          have c5 : Dq K G6 (.ref r5) (.tuple [.int A]) := Dq.mono (hG6 ▸ (Nw.mk1 m5.gh nr6 (.tup [.ref gd])).gg) (.tup upd_same (.cons (.int _) .nil))
          have c6 : Dq K G6 (.ref r6) (.tuple [.tuple [.int A, .int B]]) := .tup (by rw [hG6]; exact upd_same) (.cons dgd .nil)
          exact .cons c1 (.cons c2 (.cons c4 (.cons c5 (.cons c6 .nil))))
        have fDS : ∀ d ∈ DS, Fine d := by
          rw [hDS]
          intro d hd
          rcases List.mem_append.mp hd with hd | hd
          · exact M.fine d hd
          · simp only [List.mem_cons, List.not_mem_nil, or_false] at hd
            rcases hd with rfl | rfl | rfl | rfl | rfl | rfl | rfl | rfl
            · exact fine_ints u1s u2s
            · exact fine_ints w1s w2s
            · exact fine_ints As Bs
            · exact fine_ints Bs As
            · exact fine_list As Bs
            · exact fine_three As Bs (by decide +kernel)
            · exact fine_one As
            · exact fine_in As Bs
        have lXS : XS.length ≤ 24 + 9 * j + 8 := by rw [hXS, List.length_append]; have := M.len; simp only [List.length_cons, List.length_nil]; omega
        have P10 : PenAt _ p (20 * i + 5 * j + 4) := ((P9.same m6.hh (Nat.le_refl _)).same (Same.upd nl8) (Nat.le_refl _)).same (Same.upd (o := .lst (xs ++ [.ref pr, .ref lw, .ref gd, .ref r1, .ref r2, .ref r4, .ref r5, .ref r6])) nt2) (Nat.le_refl _)
        have g10 := (m6'.gh.trans (Same.upd (o := .lst [.ref pr, .ref lw, .ref gd, .ref r1, .ref r2, .ref r4, .ref r5, .ref r6]) nl8)).trans (Same.upd (o := .lst (xs ++ [.ref pr, .ref lw, .ref gd, .ref r1, .ref r2, .ref r4, .ref r5, .ref r6])) nt2)
        have g6t : G6 t2 = none := (m6'.gh.trans (Same.upd (o := .lst [.ref pr, .ref lw, .ref gd, .ref r1, .ref r2, .ref r4, .ref r5, .ref r6]) nl8)).free nt2
        have g6p : G6 p = none := by rw [m6'.old p P9.some]; exact g3p
        have t2p : t2 ≠ p := pen_not ((P9.same m6.hh (Nat.le_refl _)).same (Same.upd nl8) (Nat.le_refl _)) nt2
        have fin : ∀ (Gx Hx : Hp) (r : V) (d : PyData), Hx t2 = some (.lst XS) → Gx t2 = none → Gx p = none → Same Gx Hx → Same G6 Gx → Dq K Gx r d → Fine d → PenAt Hx p (20 * i + 5 * (j + 1)) → Mid K p (20 * i + 5 * (j + 1)) (24 + 9 * (j + 1)) t2 (upd Hx t2 (.lst (XS ++ [r]))) (XS ++ [r]) (DS ++ [d]) Gx := by
          intro Gx Hx r d a1 a2 a3 a4 a5 a6 a7 a8
          refine ⟨t2p, upd_same, a2, a3, fun b o hb => ?_, (dXS.mono a5).append (.cons a6 .nil), fun z hz => ?_, by rw [List.length_append, List.length_singleton]; omega, ?_⟩
          · rw [upd_ne (ne_of_none hb a2)]; exact a4 b o hb
          · rcases List.mem_append.mp hz with hz | hz
            · exact fDS z hz
            · rw [List.mem_singleton.mp hz]; exact a7
          · obtain ⟨c, cells, z1, z2, h1, h2, h3, h4⟩ := a8.ex
            refine ⟨c, cells, z1, z2, by rw [upd_ne t2p.symm]; exact h1, ?_, h3, h4⟩
            rw [upd_ne]
            · exact h2
            · intro z
              rw [z, a1] at h2
              have e1 : XS = cells.map V.int := by
                injection h2 with h2
                injection h2
              have e2 : V.ref pr ∈ XS := by rw [hXS]; simp
              rw [e1] at e2
              obtain ⟨_, _, e3⟩ := List.mem_map.mp e2
              cases e3
        have hat : at0 = 0 ∨ at0 = 1 := by omega
        rcases hat with rfl | rfl
        · refine ⟨_, rfl, .inl ⟨rfl, _, SqL.of upd_same⟩, _, rfl, _, rfl, _, rfl, gd, _, rfl, SqT.of (g10 _ _ hgd6), (fun z => absurd z.2 (by show ¬ ((0 : Nat) = 2); decide)), fun _ r7 nr7 => ?_⟩
          have m7 := Nw.mk1 g10 nr7 (.tup [])
          refine ⟨_, rfl, p, _, _, rfl, P10.same m7.hh (Nat.le_refl _), by omega, m7.gh, (m7.old p P10.some).trans g6p, fun v dv G8 H11 mv P11 dqv hv => ?_⟩
          have h7t := mv.bt _ _ t2p (m7.hh _ _ (upd_same (a := t2)))
          have h7r : H11 r7 = some (.tup []) := mv.gh _ _ (mv.gg _ _ upd_same)
          have h7g : H11 gd = some (.tup [.int A, .int B]) := mv.gh _ _ (mv.gg _ _ (m7.gg _ _ hgd6))
          have h7x : H11 t2 ≠ none := by rw [h7t]; exact fun z => nomatch z
          refine ⟨(by show 1 ≤ sizeLine; decide), fun r8 nr8 => ?_⟩
          have m8 := Nw.mk1 mv.gh nr8 (.tup [v])
          refine ⟨r7, r8, _, _, rfl, rfl, SqT.of (m8.hh _ _ h7r), SqT.of upd_same, (by show 1 ≤ sizeLine; decide), (fun _ => ?_), (fun z => absurd rfl z), (fun z => absurd rfl z)⟩
          refine ⟨_, rfl, _, rfl, _, _, rfl, rfl, _, rfl, gd, _, rfl, SqT.of (m8.hh _ _ h7g), (fun z => absurd z.1 (by show ¬ ((1 : Nat) = 0); decide)), fun _ r9 nr9 => ?_⟩
          have m9 := m8.trans (Nw.mk1 m8.gh nr9 (.tup [.int B]))
          refine ⟨r8, r9, _, _, rfl, rfl, SqT.of (Same.upd nr9 _ _ upd_same), SqT.of upd_same, (by show 2 ≤ sizeLine; decide), (fun z => nomatch z), (fun _ z => absurd (show [V.int B] = [] from z) (fun y => nomatch y)), fun _ _ r10 nr10 => ?_⟩
          have m10 := m9.trans (Nw.mk1 m9.gh nr10 (.tup [v, .int B]))
          have o10 := m10.old t2 h7x
          have g8t : G8 t2 = none := by
            have q1 := mv.old t2 (some_ne (m7.hh _ _ (upd_same (a := t2))))
            have q2 := m7.old t2 (some_ne (upd_same (a := t2)))
            exact (q1.trans q2).trans g6t
          have g8p : G8 p = none := by
            exact ((mv.old p (P10.same m7.hh (Nat.le_refl _)).some).trans (m7.old p P10.some)).trans g6p
          refine ⟨t2, _, _, rfl, rfl, m10.hh _ _ h7t, (by rw [← hXS, sizeLine_eq]; omega), ?_⟩
          have hw := fin _ _ (.ref r10) (.tuple [dv, .int B]) (by rw [hXS]; exact m10.hh _ _ h7t) (o10.trans g8t) ((m10.old p P11.some).trans g8p) m10.gh ((m7.gg.trans mv.gg).trans m10.gg)
            (.tup upd_same (.cons (dqv.mono m10.gg) (.cons (.int _) .nil))) (fine_odd1 hv Bs) (P11.same m10.hh (by omega))
          rw [hXS] at hw
          exact ⟨_, _, _, _, _, _, _, _, t2, _, _, _, rfl, hw⟩
        · refine ⟨_, rfl, .inl ⟨rfl, _, SqL.of upd_same⟩, _, rfl, _, rfl, _, rfl, gd, _, rfl, SqT.of (g10 _ _ hgd6), (fun z => absurd z.2 (by show ¬ ((1 : Nat) = 2); decide)), fun _ r7 nr7 => ?_⟩
          have m7 := Nw.mk1 g10 nr7 (.tup [.int A])
          refine ⟨_, rfl, p, _, _, rfl, P10.same m7.hh (Nat.le_refl _), by omega, m7.gh, (m7.old p P10.some).trans g6p, fun v dv G8 H11 mv P11 dqv hv => ?_⟩
          have h7t := mv.bt _ _ t2p (m7.hh _ _ (upd_same (a := t2)))
          have h7r : H11 r7 = some (.tup [.int A]) := mv.gh _ _ (mv.gg _ _ upd_same)
          have h7g : H11 gd = some (.tup [.int A, .int B]) := mv.gh _ _ (mv.gg _ _ (m7.gg _ _ hgd6))
          have h7x : H11 t2 ≠ none := by rw [h7t]; exact fun z => nomatch z
          refine ⟨(by show 1 ≤ sizeLine; decide), fun r8 nr8 => ?_⟩
          have m8 := Nw.mk1 mv.gh nr8 (.tup [v])
          refine ⟨r7, r8, _, _, rfl, rfl, SqT.of (m8.hh _ _ h7r), SqT.of upd_same, (by show 2 ≤ sizeLine; decide), (fun z => absurd (show [V.int A] = [] from z) (fun y => nomatch y)), (fun _ z => nomatch z), fun _ _ r9 nr9 => ?_⟩
          have m9 := m8.trans (Nw.mk1 m8.gh nr9 (.tup [.int A, v]))
          refine ⟨_, rfl, _, rfl, _, _, rfl, rfl, _, rfl, gd, _, rfl, SqT.of (m9.hh _ _ h7g), (fun z => absurd z.1 (by show ¬ ((2 : Nat) = 0); decide)), fun _ r10 nr10 => ?_⟩
          have m10 := m9.trans (Nw.mk1 m9.gh nr10 (.tup []))
          refine ⟨r9, r10, _, _, rfl, rfl, SqT.of (Same.upd nr10 _ _ upd_same), SqT.of upd_same, (by show 2 ≤ sizeLine; decide), (fun z => nomatch z), (fun _ _ => ?_), (fun _ z => absurd rfl z)⟩
          have o10 := m10.old t2 h7x
          have g8t : G8 t2 = none := by
            have q1 := mv.old t2 (some_ne (m7.hh _ _ (upd_same (a := t2))))
            have q2 := m7.old t2 (some_ne (upd_same (a := t2)))
            exact (q1.trans q2).trans g6t
          have g8p : G8 p = none := by
            exact ((mv.old p (P10.same m7.hh (Nat.le_refl _)).some).trans (m7.old p P10.some)).trans g6p
          refine ⟨t2, _, _, rfl, rfl, m10.hh _ _ h7t, (by rw [← hXS, sizeLine_eq]; omega), ?_⟩
          have hw := fin _ _ (.ref r9) (.tuple [.int A, dv]) (by rw [hXS]; exact m10.hh _ _ h7t) (o10.trans g8t) ((m10.old p P11.some).trans g8p) m10.gh ((m7.gg.trans mv.gg).trans m10.gg)
            (.tup (by rw [upd_ne (ne_of_none upd_same nr10)]; exact upd_same) (.cons (.int _) (.cons (dqv.mono m10.gg) .nil))) (fine_odd2 hv As) (P11.same m10.hh (by omega))
          rw [hXS] at hw
          exact ⟨_, _, _, _, _, _, _, _, t2, _, _, _, rfl, hw⟩
      · -- all things
        rintro σ H5 ⟨y4, y5, y6, y7, y8, y9, y10, y11, t, xs, ds, G, rfl, M⟩
        refine ⟨_, rfl, t, rfl, ⟨_, SqL.of M.at_t⟩, for_list (K := K) (a := t) (xs := xs) (fun j σ H6 => ∃ z10 z11 : Option V, σ = [some (.ref a), some (.ref p), some (.int (0 + (i : Int))), some (.ref t), y4, y5, y6, y7, y8, y9, z10, z11] ∧ Same H5 H6) ⟨_, _, rfl, Same.refl _⟩ (fun j σ H6 _ ⟨_, _, _, s6⟩ => SqL.of (s6 _ _ M.at_t)) ?_ ?_⟩
        · rintro j x σ H6 hx ⟨z10, z11, rfl, s6⟩
          obtain ⟨d, hd, dq⟩ := M.dq.get hx
          have fd := M.fine d (List.mem_of_getElem? hd)
          have g6 := M.gh.trans s6
          refine ⟨_, rfl, x, d, G, rfl, g6, dq, fd.sh, fd.hm, fd.dp, fine_fits fd, ?_⟩
          refine ⟨_, rfl, x, d, G, rfl, g6, dq, ?_⟩
          refine ⟨.bl (isFr d), .bool (isFr d), G, rfl, g6, .bl _, rfl, (fun z => by cases z), (by simp only [PyData.depth]; omega), shown_bool _, ?_⟩
          refine ⟨_, rfl, x, d, G, rfl, g6, dq, fd.bd, fun H7 s7 => ?_⟩
          refine ⟨.bl (isFr d), .bool (isFr d), G, rfl, g6.trans s7, .bl _, rfl, (fun z => by cases z), (by simp only [PyData.depth]; omega), shown_bool _, ?_⟩
          refine ⟨rfl, _, rfl, iteNS rfl ?_⟩
          refine ⟨_, rfl, x, d, G, rfl, g6.trans s7, dq, fd.sh, fd.hm, fd.dp, fine_fits fd, _, rfl, rfl, _, rfl, iteNS rfl ?_⟩
          exact ⟨_, _, rfl, s6.trans s7⟩
        · rintro σ H6 ⟨z10, z11, rfl, s6⟩
          exact ⟨_, _, _, _, _, _, _, _, _, _, rfl, M.pen.same s6 (by omega)⟩
    · rintro σ H2 ⟨x2, x3, x4, x5, x6, x7, x8, x9, x10, x11, rfl, P2⟩
      exact k H2
end
end My

namespace My
open PySem PySem.Spec PyProof.Rows L2
theorem all_mk {l : PySem.W.OpenLaw} {w : World} {K : PySem.W.Frag} {h : Heap} {mg : Str → Option Value} {fa f1 f2 f3 f4 f5 f6 f7 f8 f9 : Addr} (X : K.In h) (G : h.Ns mainGlobals mg) (hfa : mg "law" = some (.ref fa))
    {od1 an1 od2 an2 od3 an3 od4 an4 od5 an5 od6 an6 od7 an7 od8 an8 od9 an9 : Option Addr} {sl1 sl2 sl3 sl4 sl5 sl6 sl7 sl8 sl9 : Array (Option Value)} {oc1 kV1 dc1 pm1 cd1 ct1 oc2 kV2 dc2 pm2 cd2 ct2 oc3 kV3 dc3 pm3 cd3 ct3 oc4 kV4 dc4 pm4 cd4 ct4 oc5 kV5 dc5 pm5 cd5 ct5 oc6 kV6 dc6 pm6 cd6 ct6 oc7 kV7 dc7 pm7 cd7 ct7 oc8 kV8 dc8 pm8 cd8 ct8 oc9 kV9 dc9 pm9 cd9 ct9 : Value}
    (a1 : PySem.W.nsIn K mainGlobals "is_whole" = some (some (.ref f1))) (l1 : K.lookup f1 = some ⟨oc1, od1, .func (PySem.W.fnOf "is_whole" "is_whole" (defArgs sWhole) (defBody sWhole) (defScope sWhole) .none kV1 dc1 pm1 an1 cd1 ct1), sl1⟩) (c1 : PySem.W.codeIn K cd1 "is_whole" = true) (k1 : PySem.W.keepIn K (.ref f1) = true)
    (a2 : PySem.W.nsIn K mainGlobals "is_fraction" = some (some (.ref f2))) (l2 : K.lookup f2 = some ⟨oc2, od2, .func (PySem.W.fnOf "is_fraction" "is_fraction" (defArgs sIsF) (defBody sIsF) (defScope sIsF) .none kV2 dc2 pm2 an2 cd2 ct2), sl2⟩) (c2 : PySem.W.codeIn K cd2 "is_fraction" = true) (k2 : PySem.W.keepIn K (.ref f2) = true)
    (a3 : PySem.W.nsIn K mainGlobals "_law_spread" = some (some (.ref f3))) (l3 : K.lookup f3 = some ⟨oc3, od3, .func (PySem.W.fnOf "_law_spread" "_law_spread" (defArgs sSpread) (defBody sSpread) (defScope sSpread) .none kV3 dc3 pm3 an3 cd3 ct3), sl3⟩) (c3 : PySem.W.codeIn K cd3 "_law_spread" = true) (k3 : PySem.W.keepIn K (.ref f3) = true)
    (a4 : PySem.W.nsIn K mainGlobals "_law_open" = some (some (.ref f4))) (l4 : K.lookup f4 = some ⟨oc4, od4, .func (PySem.W.fnOf "_law_open" "_law_open" (defArgs sOpen) (defBody sOpen) (defScope sOpen) .none kV4 dc4 pm4 an4 cd4 ct4), sl4⟩) (c4 : PySem.W.codeIn K cd4 "_law_open" = true) (k4 : PySem.W.keepIn K (.ref f4) = true)
    (a5 : PySem.W.nsIn K mainGlobals "_law_take" = some (some (.ref f5))) (l5 : K.lookup f5 = some ⟨oc5, od5, .func (PySem.W.fnOf "_law_take" "_law_take" (defArgs sTake) (defBody sTake) (defScope sTake) .none kV5 dc5 pm5 an5 cd5 ct5), sl5⟩) (c5 : PySem.W.codeIn K cd5 "_law_take" = true) (k5 : PySem.W.keepIn K (.ref f5) = true)
    (a6 : PySem.W.nsIn K mainGlobals "_law_reduced" = some (some (.ref f6))) (l6 : K.lookup f6 = some ⟨oc6, od6, .func (PySem.W.fnOf "_law_reduced" "_law_reduced" (defArgs sRed) (defBody sRed) (defScope sRed) .none kV6 dc6 pm6 an6 cd6 ct6), sl6⟩) (c6 : PySem.W.codeIn K cd6 "_law_reduced" = true) (k6 : PySem.W.keepIn K (.ref f6) = true)
    (a7 : PySem.W.nsIn K mainGlobals "_law_is_fraction" = some (some (.ref f7))) (l7 : K.lookup f7 = some ⟨oc7, od7, .func (PySem.W.fnOf "_law_is_fraction" "_law_is_fraction" (defArgs sLIsF) (defBody sLIsF) (defScope sLIsF) .none kV7 dc7 pm7 an7 cd7 ct7), sl7⟩) (c7 : PySem.W.codeIn K cd7 "_law_is_fraction" = true) (k7 : PySem.W.keepIn K (.ref f7) = true)
    (a8 : PySem.W.nsIn K mainGlobals "_law_odd" = some (some (.ref f8))) (l8 : K.lookup f8 = some ⟨oc8, od8, .func (PySem.W.fnOf "_law_odd" "_law_odd" (defArgs sOdd) (defBody sOdd) (defScope sOdd) .none kV8 dc8 pm8 an8 cd8 ct8), sl8⟩) (c8 : PySem.W.codeIn K cd8 "_law_odd" = true) (k8 : PySem.W.keepIn K (.ref f8) = true)
    (a9 : PySem.W.nsIn K mainGlobals "law" = some (some (.ref f9))) (l9 : K.lookup f9 = some ⟨oc9, od9, .func (PySem.W.fnOf "law" "law" (defArgs sLaw) (defBody sLaw) (defScope sLaw) .none kV9 dc9 pm9 an9 cd9 ct9), sl9⟩) (c9 : PySem.W.codeIn K cd9 "law" = true) (k9 : PySem.W.keepIn K (.ref f9) = true)
    (z_isinstance : PySem.W.nsIn K mainGlobals "isinstance" = some none)
    (z_int : PySem.W.nsIn K mainGlobals "int" = some none)
    (z_bool : PySem.W.nsIn K mainGlobals "bool" = some none)
    (z_tuple : PySem.W.nsIn K mainGlobals "tuple" = some none)
    (z_len : PySem.W.nsIn K mainGlobals "len" = some none)
    (z_list : PySem.W.nsIn K mainGlobals "list" = some none)
    (z_enumerate : PySem.W.nsIn K mainGlobals "enumerate" = some none)
    (z_range : PySem.W.nsIn K mainGlobals "range" = some none)
    (z_sorted : PySem.W.nsIn K mainGlobals "sorted" = some none)
    (z_max : PySem.W.nsIn K mainGlobals "max" = some none)
    (z_repr : PySem.W.nsIn K mainGlobals "repr" = some none)
    (zG : PySem.W.nsIn K mainGlobals "gcd" = some (some (.builtin "math.gcd")))
    : ∃ fd : FuncData, (∀ (s : Shared) (v : Value), BindsTo s fd ⟨[v], []⟩ [("script", v)]) ∧ ∀ base : Heap, K.In base → base.Ns mainGlobals mg → AtTop l.prog w K mg base fa fd ["script"] (spLaw K) := by
  have e := hfa.symm.trans (PySem.W.mg_of X G a9)
  cases e
  have F1 := fun_mk (st := sWhole) l1 c1 k1; have g1 := PySem.W.mg_of X G a1
  have F2 := fun_mk (st := sIsF) l2 c2 k2; have g2 := PySem.W.mg_of X G a2
  have F3 := fun_mk (st := sSpread) l3 c3 k3; have g3 := PySem.W.mg_of X G a3
  have F4 := fun_mk (st := sOpen) l4 c4 k4; have g4 := PySem.W.mg_of X G a4
  have F5 := fun_mk (st := sTake) l5 c5 k5; have g5 := PySem.W.mg_of X G a5
  have F6 := fun_mk (st := sRed) l6 c6 k6; have g6 := PySem.W.mg_of X G a6
  have F7 := fun_mk (st := sLIsF) l7 c7 k7; have g7 := PySem.W.mg_of X G a7
  have F8 := fun_mk (st := sOdd) l8 c8 k8; have g8 := PySem.W.mg_of X G a8
  have F9 := fun_mk (st := sLaw) l9 c9 k9; have g9 := PySem.W.mg_of X G a9
  have m_isinstance := PySem.W.mg_none_of X G z_isinstance
  have m_int := PySem.W.mg_none_of X G z_int
  have m_bool := PySem.W.mg_none_of X G z_bool
  have m_tuple := PySem.W.mg_none_of X G z_tuple
  have m_len := PySem.W.mg_none_of X G z_len
  have m_list := PySem.W.mg_none_of X G z_list
  have m_enumerate := PySem.W.mg_none_of X G z_enumerate
  have m_range := PySem.W.mg_none_of X G z_range
  have m_sorted := PySem.W.mg_none_of X G z_sorted
  have m_max := PySem.W.mg_none_of X G z_max
  have m_repr := PySem.W.mg_none_of X G z_repr
  have b1 := F1.binds (ps := ["thing"]) fun _ _ _ _ _ _ us hl => match us, hl with | [_], _ => rfl
  have b2 := F2.binds (ps := ["thing"]) fun _ _ _ _ _ _ us hl => match us, hl with | [_], _ => rfl
  have b3 := F3.binds (ps := ["cell", "at"]) fun _ _ _ _ _ _ us hl => match us, hl with | [_, _], _ => rfl
  have b4 := F4.binds (ps := ["script"]) fun _ _ _ _ _ _ us hl => match us, hl with | [_], _ => rfl
  have b5 := F5.binds (ps := ["pen", "many"]) fun _ _ _ _ _ _ us hl => match us, hl with | [_, _], _ => rfl
  have b6 := F6.binds (ps := ["top", "whole"]) fun _ _ _ _ _ _ us hl => match us, hl with | [_, _], _ => rfl
  have b7 := F7.binds (ps := ["thing"]) fun _ _ _ _ _ _ us hl => match us, hl with | [_], _ => rfl
  have b8 := F8.binds (ps := ["pen"]) fun _ _ _ _ _ _ us hl => match us, hl with | [_], _ => rfl
  have T : Txt mg := ⟨m_isinstance, m_int, m_bool, m_tuple, m_len⟩
  have TL : TxL mg := ⟨m_range, m_tuple, m_sorted, m_max, m_list, m_repr⟩
  refine ⟨PySem.W.fnOf "law" "law" (defArgs sLaw) (defBody sLaw) (defScope sLaw) .none kV9 dc9 pm9 an9 cd9 ct9, fun s v => .of_eq rfl, fun base _ _ => ?_⟩
  have GT := ok_take (P := l.prog) (w := w) (base := base) F5 m_len F3 b3 g3
  exact ok_law F9 TL F4 (ok_open F4 m_list m_enumerate) b4 g4 F5 GT b5 g5 F6 (ok_red F6) b6 g6 F2 (ok_isF F2 T F1 b1 g1 (PySem.W.mg_of X G zG)) b2 g2 F7 (ok_lisF F7 T F6 b6 g6) b7 g7 F8 (ok_odd F8 F5 GT b5 g5) b8 g8
end My
open PySem PySem.W PyProof.Rows
set_option maxRecDepth 100000 in
set_option maxHeartbeats 0 in
theorem PySem.Challenge.cw_dustwithin_k01_fractions_of_anything_holds : PySem.Challenge.rw_dustwithin_k01_fractions_of_anything.Holds := by
  w_on; o_law; k_head; (case hw => w_witness2)
  k_fill
  refine My.walk_top (l := PySem.Challenge.rw_dustwithin_k01_fractions_of_anything) (n := 63) (x := "script") (sp := fun w => My.spLaw _) rfl (by decide) rfl (fun w h Y => PySem.W.kIn_of Y) ?F (fun _ _ a ns hl _ hS => ⟨a, ns, rfl, hS, hl, fun _ => rfl⟩)
  case F =>
    intro w mg fa h KX G hmg
    refine' My.all_mk KX G hmg ?a1 ?l1 ?c1 ?k1 ?a2 ?l2 ?c2 ?k2 ?a3 ?l3 ?c3 ?k3 ?a4 ?l4 ?c4 ?k4 ?a5 ?l5 ?c5 ?k5 ?a6 ?l6 ?c6 ?k6 ?a7 ?l7 ?c7 ?k7 ?a8 ?l8 ?c8 ?k8 ?a9 ?l9 ?c9 ?k9 ?z_isinstance ?z_int ?z_bool ?z_tuple ?z_len ?z_list ?z_enumerate ?z_range ?z_sorted ?z_max ?z_repr ?zG
    (case a1 => k_is); (case l1 => k_is); (case c1 => k_is); (case k1 => k_is); (case a2 => k_is); (case l2 => k_is)
    (case c2 => k_is); (case k2 => k_is); (case a3 => k_is); (case l3 => k_is); (case c3 => k_is); (case k3 => k_is)
    (case a4 => k_is); (case l4 => k_is); (case c4 => k_is); (case k4 => k_is); (case a5 => k_is); (case l5 => k_is)
    (case c5 => k_is); (case k5 => k_is); (case a6 => k_is); (case l6 => k_is); (case c6 => k_is); (case k6 => k_is)
    (case a7 => k_is); (case l7 => k_is); (case c7 => k_is); (case k7 => k_is); (case a8 => k_is); (case l8 => k_is)
    (case c8 => k_is); (case k8 => k_is); (case a9 => k_is); (case l9 => k_is); (case c9 => k_is); (case k9 => k_is)
    (case z_isinstance => k_is); (case z_int => k_is); (case z_bool => k_is); (case z_tuple => k_is); (case z_len => k_is); (case z_list => k_is)
    (case z_enumerate => k_is); (case z_range => k_is); (case z_sorted => k_is); (case z_max => k_is); (case z_repr => k_is); (case zG => k_is)
