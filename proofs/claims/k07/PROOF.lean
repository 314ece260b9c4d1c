import PyProof.Rows.All
import Wide.All
import OpenK.AllK
import Wide.FinOn
import HandS.ForMost
import HandS.Wide
import HandS.Gcd
import HandS.IsInst
import HandS.TupAny
import HandS.SortInts
import HandS.Style
import HandS.Codes
import HandS.Walk
import HandS.RaiseMore
import HandS.TupMul
import HandS.WideBits
import HandS.Zip
import HandS.Exc
import HandS.ExcValue
import HandS.ExcInit
import HandS.ExcIs
import HandS.ExcField
import HandS.ClsMeth
import KE.KExcIs
import KE.KIsAll
import HandS.FStr
import HandS.ExcOwn
import PySem.Challenge.RW_dustwithin_k07_refusals_by_hand
set_option Elab.async false
set_option maxRecDepth 100000
namespace My
open PySem PySem.Spec PyProof.Rows L2

/-! ### sorted(t), t a tuple of ints -/
section
variable {prog : Program} {w : World} {A : Around} {E : Value → Shared → Prop} {s : Shared}
theorem gather_tup {t : Addr} {us : List Value} {Q : List Value → Shared → Prop} (ht : IsTup s.heap t us.toArray) (hz : us.length ≤ sizeLine)
    (q : Q us { s with heap := (s.heap.push (seqObj "list" #[] 0)).update s.heap.objs.size (Obj.mapSeq (· ++ us.toArray)) }) : wpAny (model prog w) A (collect (.ref t)) Q E s := by
  obtain ⟨ob, hob, hcl, m, hdat⟩ := ht
  unfold collect
  refine wpAny_bind (wpAny_runValue (codeAny_builtin entry_proto_collect' ?_))
  show wpAny _ _ (do again (.builtin "list.__iadd__" ⟨[← newList [], .ref t], []⟩)) _ _ s
  refine wpAny_bind (wpAny_newList (wpAny_pure ⟨Code.quiet_builtin _ (by decide +kernel), codeAny_builtin entry_list_iadd' ?_⟩))
  show wpAny _ _ (Builtin.List.listExtendWith (.ref s.heap.objs.size) (.ref t) (.ref s.heap.objs.size)) _ _ { s with heap := s.heap.push (seqObj "list" #[] 0) }
  unfold Builtin.List.listExtendWith
  have hob1 : (s.heap.push (seqObj "list" #[] 0)).get? t = some ob := Heap.get?_push_of_some _ hob
  have e2 : (Value.type "tuple" == Value.type "tuple") = true := by rfl
  refine wpAny_bind (wpAny_typeOf (T := "tuple") ⟨ob, hob1, hcl⟩ ?_); rw [if_pos (by rw [e2]; simp)]
  refine wpAny_bind (listItems_at hob1 hdat ?_); refine wpAny_bind (listItems_at (n := 0) (xs := #[]) (Heap.get?_push_size _ rfl) rfl ?_); rw [if_neg (by simp)]
  refine wpAny_bind (listUpdate_at (n := 0) (xs := #[]) (Heap.get?_push_size _ rfl) rfl ?_ (Nat.zero_le _) (by show (#[] ++ us.toArray).size ≤ sizeLine + 1; simp only [Array.size_append, List.size_toArray, List.length_nil]; omega))
  refine wpAny_pure ?_; show wpAny (model prog w) A (do
      let ob ← load s.heap.objs.size
      match ob.data with
      | .seq xs _ => pure xs.toList
      | _ => unsupported "internal:collect") Q E { s with heap := (s.heap.push (seqObj "list" #[] 0)).update s.heap.objs.size (Obj.mapSeq (· ++ us.toArray)) }
  refine wpAny_bind (wpAny_load (get?_update_seq (Heap.get?_push_size _ rfl) _) ?_)
  show wpAny _ _ (pure ((#[] : Array Value) ++ us.toArray).toList) Q E _
  rw [show ((#[] : Array Value) ++ us.toArray).toList = us by simp]; exact wpAny_pure q
theorem sorted_tup {t : Addr} {us : List Value} {ms : List Int} {Q : Value → Shared → Prop} (ht : IsTup s.heap t us.toArray) (hI : IntsAre us ms) (h64 : us.length < 64)
    (q : ∀ (out : Array Value) (ms' : List Int), IntsAre out.toList ms' → ms'.Perm ms → ms'.Pairwise (· ≤ ·) → Q (.ref (s.heap.objs.size + 1)) { s with heap := sortedAll s.heap us out }) :
    wpAny (model prog w) A (call (.builtin "sorted") [.ref t]) Q E s := by
  refine Calls.call_function_entry kind_sorted plain_sorted entry_sorted (args_sorted1 _) ?_; unfold Builtin.«sorted»
  refine wpAny_bind (m := checkCount "sorted" 1 1 _) (wpAny_pure ?_)
  refine wpAny_bind (gather_tup ht (small64 h64) ?_); refine wpAny_bind (wpAny_newList ?_ (small64 h64))
  have k1 : ((s.heap.push (seqObj "list" #[] 0)).update s.heap.objs.size (Obj.mapSeq (· ++ us.toArray))).objs.size = s.heap.objs.size + 1 := by rw [Heap.size_update, size_push']
  have k2 : (((s.heap.push (seqObj "list" #[] 0)).update s.heap.objs.size (Obj.mapSeq (· ++ us.toArray))).push (seqObj "list" us.toArray 0)).get? (s.heap.objs.size + 1) = some (seqObj "list" us.toArray 0) := by rw [← k1]; exact Heap.get?_push_size _ rfl
  show wpAny _ _ _ _ _ { s with heap := ((s.heap.push (seqObj "list" #[] 0)).update s.heap.objs.size (Obj.mapSeq (· ++ us.toArray))).push (seqObj "list" us.toArray 0) }
  rw [k1]
  refine wpAny_bind (wpAny_holding (wpAny_call_entry slot_list_sort ⟨_, k2, rfl⟩ entry_list_sort (list_sort_tree k2 hI h64 fun out ms' a1 a2 a3 => ⟨_, rfl, ?_⟩) (args_list_sort _)))
  exact wpAny_pure ⟨_, rfl, q out ms' a1 a2 a3⟩
end
section
variable {X : Cx}
theorem cr_sortedTup : CallR X (.builtin "sorted") (fun vs H Q => ∃ (a : Addr) (ms : List Int), vs = [V.ref a] ∧ SqT X.K H a (ms.map V.int) ∧ ms.length < 64 ∧
    ∀ (ms' : List Int) (p : Addr), ms'.Perm ms → ms'.Pairwise (· ≤ ·) → H p = none → Q (.ref p) (upd H p (.lst (ms'.map V.int)))) := by
  intro pins s σ H vs us Q I r h
  obtain ⟨a, ms, rfl, hs, h64, q⟩ := h
  obtain ⟨its, rv, hl, _⟩ := I.tuple hs
  rw [Vals.ref1 r]
  have hi := rv.ints
  refine sorted_tup hl hi (by rw [hi.length]; exact h64) fun out ms' h1 h2 h3 => ?_
  obtain ⟨ep, he⟩ := PyProof.Rows.sortedAll_at s.heap its out
  have hlen : (ms'.map V.int).length ≤ sizeLine := by rw [List.length_map, h2.length_eq]; exact small64 h64
  exact ⟨.ref _, upd H (s.heap.objs.size + 1) (.lst (ms'.map V.int)), I.laid (t' := s.toks) (fun _ _ => sortedAll_old) (Nat.le_succ _) ⟨hlen, out.toList, ep, vals_of_ints h1, he⟩, rfl, q ms' _ h2 h3 (I.hok.fresh (Nat.le_succ _))⟩
end

/-! ### data that stands still: G is a part of the heap that nothing writes -/
mutual
inductive Dq (K : PySem.W.Frag) (G : Hp) : V → PyData → Prop
  | non : Dq K G .non .none
  | bl (b : Bool) : Dq K G (.bl b) (.bool b)
  | int (i : Int) : Dq K G (.int i) (.int i)
  | str (x : Str) : Dq K G (.str x) (.str x)
  | lst {a : Addr} {xs : List V} {ds : List PyData} : G a = some (.lst xs) → DqAll K G xs ds → Dq K G (.ref a) (.list ds)
  | tup {a : Addr} {xs : List V} {ds : List PyData} : G a = some (.tup xs) → DqAll K G xs ds → Dq K G (.ref a) (.tuple ds)
  | dct {a : Addr} {kvs : List (Key × V)} {ds : List (PyData × PyData)} : G a = some (.dK kvs) → DqAll K G (kvs.map fun kv => kV kv.1) (ds.map (·.1)) → DqAll K G (kvs.map (·.2)) (ds.map (·.2)) → Dq K G (.ref a) (.dict ds)
inductive DqAll (K : PySem.W.Frag) (G : Hp) : List V → List PyData → Prop
  | nil : DqAll K G [] []
  | cons {v : V} {vs : List V} {d : PyData} {ds : List PyData} : Dq K G v d → DqAll K G vs ds → DqAll K G (v :: vs) (d :: ds)
end
section
variable {K : PySem.W.Frag} {G G' H : Hp}
mutual
theorem Dq.mono (e : Same G G') : ∀ {v : V} {d : PyData}, Dq K G v d → Dq K G' v d
  | _, _, .non => .non
  | _, _, .bl b => .bl b
  | _, _, .int i => .int i
  | _, _, .str x => .str x
  | _, _, .lst h t => .lst (e _ _ h) (DqAll.mono e t)
  | _, _, .tup h t => .tup (e _ _ h) (DqAll.mono e t)
  | _, _, .dct h t u => .dct (e _ _ h) (DqAll.mono e t) (DqAll.mono e u)
theorem DqAll.mono (e : Same G G') : ∀ {vs : List V} {ds : List PyData}, DqAll K G vs ds → DqAll K G' vs ds
  | _, _, .nil => .nil
  | _, _, .cons h t => .cons (Dq.mono e h) (DqAll.mono e t)
end
theorem DqAll.append : ∀ {vs ws : List V} {ds es : List PyData}, DqAll K G vs ds → DqAll K G ws es → DqAll K G (vs ++ ws) (ds ++ es)
  | _, _, _, _, .nil, t => t
  | _, _, _, _, .cons h r, t => .cons h (DqAll.append r t)
theorem DqAll.get : ∀ {vs : List V} {ds : List PyData} {i : Nat} {v : V}, DqAll K G vs ds → vs[i]? = some v → ∃ d, ds[i]? = some d ∧ Dq K G v d
  | _, _, _, _, .nil, e => by simp at e
  | _, _, 0, _, .cons h _, e => by simp at e; subst e; exact ⟨_, rfl, h⟩
  | _, _, i + 1, v, .cons _ t, e => by
    obtain ⟨d, h1, h2⟩ := DqAll.get (i := i) (v := v) t (by simpa using e)
    exact ⟨d, by simpa using h1, h2⟩
theorem DqAll.len : ∀ {vs : List V} {ds : List PyData}, DqAll K G vs ds → vs.length = ds.length
  | _, _, .nil => rfl
  | _, _, .cons _ t => by rw [List.length_cons, List.length_cons, DqAll.len t]
theorem DqAll.drop : ∀ {vs : List V} {ds : List PyData} (n : Nat), DqAll K G vs ds → DqAll K G (vs.drop n) (ds.drop n)
  | _, _, 0, h => h
  | _, _, _ + 1, .nil => .nil
  | _, _, n + 1, .cons _ t => DqAll.drop n t
theorem DqAll.take : ∀ {vs : List V} {ds : List PyData} (n : Nat), DqAll K G vs ds → DqAll K G (vs.take n) (ds.take n)
  | _, _, 0, _ => .nil
  | _, _, _ + 1, .nil => .nil
  | _, _, n + 1, .cons h t => .cons h (DqAll.take n t)
theorem DqAll.rev : ∀ {vs : List V} {ds : List PyData}, DqAll K G vs ds → DqAll K G vs.reverse ds.reverse
  | _, _, .nil => .nil
  | _, _, .cons h t => by
    rw [List.reverse_cons, List.reverse_cons]
    exact DqAll.append (DqAll.rev t) (.cons h .nil)
theorem dq_ints (K : PySem.W.Frag) (G : Hp) : ∀ ns : List Int, DqAll K G (ns.map V.int) (ns.map PyData.int)
  | [] => .nil
  | n :: r => .cons (.int n) (dq_ints K G r)
end
mutual
def hasList : PyData → Bool
  | .list _ => true
  | .tuple xs => hasListAll xs
  | .dict kvs => hasListKv kvs
  | _ => false
def hasListAll : List PyData → Bool
  | [] => false
  | x :: xs => hasList x || hasListAll xs
def hasListKv : List (PyData × PyData) → Bool
  | [] => false
  | (k, v) :: r => hasList k || hasList v || hasListKv r
end
theorem hasListKv_split : ∀ kvs : List (PyData × PyData), hasListKv kvs = false → hasListAll (kvs.map (·.1)) = false ∧ hasListAll (kvs.map (·.2)) = false
  | [], _ => ⟨rfl, rfl⟩
  | (k, v) :: r, h => by
    simp only [hasListKv, Bool.or_eq_false_iff] at h
    obtain ⟨a, b⟩ := hasListKv_split r h.2
    simp only [List.map_cons, hasListAll, Bool.or_eq_false_iff]
    exact ⟨⟨h.1.1, a⟩, h.1.2, b⟩
section
variable {X : Cx} {pins : List (Addr × Obj)} {σ : L2.St} {H : Hp} {s : Shared}
theorem kv_keys {P : Program} {w : World} : ∀ {kvs : List (Key × V)} {vs : List (Key × Value)} {es : List DictEntry}, KV kvs vs → Pairs (mixKind P w) es vs → Vals (kvs.map fun kv => kV kv.1) (es.map (·.key)) ∧ Vals (kvs.map (·.2)) (es.map (·.val))
  | _, _, _, .nil, .nil => ⟨.nil, .nil⟩
  | (k, v) :: _, (k', v') :: _, _ :: _, .cons ⟨h1, h2⟩ t, .cons g1 g2 g3 => by
    obtain ⟨a, b⟩ := kv_keys t g3
    refine ⟨.cons ?_ a, .cons ?_ b⟩
    · have e : k = k' := h1
      subst e
      rcases keyIs_shape (show keyIs k _ = true from g1) with ⟨i, tk, rfl, e2⟩ | ⟨x, tk, rfl, e2⟩
      · exact ⟨tk, e2⟩
      · exact ⟨tk, e2⟩
    · have e2 : (_ : DictEntry).val = v' := g2
      show RelV v (DictEntry.val _)
      rw [e2]; exact h2
mutual
theorem Dq.reads (I : Inv X pins σ H s) : ∀ (d : PyData) (v : V) (u : Value), Dq X.K H v d → RelV v u → ∃ as, Reads s.heap u d as ∧ (hasList d = false → sysModules ∉ as)
  | .none, _, _, h, r => by cases h; cases r; exact ⟨_, Reads.none, fun _ z => nomatch z⟩
  | .bool b, _, _, h, r => by cases h; cases r; exact ⟨_, Reads.bool b, fun _ z => nomatch z⟩
  | .int i, _, _, h, r => by cases h; obtain ⟨t, rfl⟩ := r; exact ⟨_, Reads.int i t, fun _ z => nomatch z⟩
  | .str x, _, _, h, r => by cases h; obtain ⟨t, rfl⟩ := r; exact ⟨_, Reads.str x t, fun _ z => nomatch z⟩
  | .list ds, _, _, h, r => by
    cases h with
    | lst hs ha =>
      cases r
      obtain ⟨_, its, n, rv, ho⟩ := I.hok _ _ hs
      obtain ⟨as, hr, _⟩ := DqAll.reads I ds _ its ha rv
      exact ⟨_, Reads.list ho rfl rfl (by simpa using hr), fun z => nomatch z⟩
  | .tuple ds, _, _, h, r => by
    cases h with
    | tup hs ha =>
      cases r
      obtain ⟨_, its, rv, o, ho, hc, n, hd⟩ := I.hok _ _ hs
      obtain ⟨as, hr, hn⟩ := DqAll.reads I ds _ its ha rv
      exact ⟨_, Reads.tuple ho hc hd (by simpa using hr), fun z => hn (by simpa only [hasList] using z)⟩
  | .dict ds, _, _, h, r => by
    cases h with
    | dct hs hk hv =>
      rename_i a kvs
      cases r
      obtain ⟨_, hm, vs, rel, o, es, ep, ho, hx, hd, _, hp, _⟩ := I.hok _ _ hs
      obtain ⟨r1, r2⟩ := kv_keys rel hp
      obtain ⟨as, q1, n1⟩ := DqAll.readsK I ds _ _ hk r1
      obtain ⟨bs, q2, n2⟩ := DqAll.readsV I ds _ _ hv r2
      refine ⟨_, Reads.dict ho hx.1 hd q1 q2, fun z => ?_⟩
      obtain ⟨z1, z2⟩ := hasListKv_split ds (by simpa only [hasList] using z)
      intro hmem
      rcases List.mem_append.mp hmem with hmem | hmem
      · rcases List.mem_cons.mp hmem with e | e
        · rw [← e] at hm; simp at hm
        · exact n1 z1 e
      · exact n2 z2 hmem
theorem DqAll.reads (I : Inv X pins σ H s) : ∀ (ds : List PyData) (vs : List V) (us : List Value), DqAll X.K H vs ds → Vals vs us → ∃ as, ReadsAll s.heap us ds as ∧ (hasListAll ds = false → sysModules ∉ as)
  | [], _, _, h, r => by cases h; cases r; exact ⟨_, ReadsAll.nil, fun _ z => nomatch z⟩
  | d :: ds, _, _, h, r => by
    cases h with
    | cons h1 h2 =>
      cases r with
      | cons r1 r2 =>
        obtain ⟨as, q1, n1⟩ := Dq.reads I d _ _ h1 r1
        obtain ⟨bs, q2, n2⟩ := DqAll.reads I ds _ _ h2 r2
        refine ⟨_, ReadsAll.cons q1 q2, fun z hm => ?_⟩
        simp only [hasListAll, Bool.or_eq_false_iff] at z
        rcases List.mem_append.mp hm with e | e
        · exact n1 z.1 e
        · exact n2 z.2 e
theorem DqAll.readsK (I : Inv X pins σ H s) : ∀ (ds : List (PyData × PyData)) (vs : List V) (us : List Value), DqAll X.K H vs (ds.map (·.1)) → Vals vs us → ∃ as, ReadsAll s.heap us (ds.map (·.1)) as ∧ (hasListAll (ds.map (·.1)) = false → sysModules ∉ as)
  | [], _, _, h, r => by cases h; cases r; exact ⟨_, ReadsAll.nil, fun _ z => nomatch z⟩
  | (d, d') :: ds, _, _, h, r => by
    cases h with
    | cons h1 h2 =>
      cases r with
      | cons r1 r2 =>
        obtain ⟨as, q1, n1⟩ := Dq.reads I d _ _ h1 r1
        obtain ⟨bs, q2, n2⟩ := DqAll.readsK I ds _ _ h2 r2
        refine ⟨_, ReadsAll.cons q1 q2, fun z hm => ?_⟩
        simp only [List.map_cons, hasListAll, Bool.or_eq_false_iff] at z
        rcases List.mem_append.mp hm with e | e
        · exact n1 z.1 e
        · exact n2 z.2 e
theorem DqAll.readsV (I : Inv X pins σ H s) : ∀ (ds : List (PyData × PyData)) (vs : List V) (us : List Value), DqAll X.K H vs (ds.map (·.2)) → Vals vs us → ∃ as, ReadsAll s.heap us (ds.map (·.2)) as ∧ (hasListAll (ds.map (·.2)) = false → sysModules ∉ as)
  | [], _, _, h, r => by cases h; cases r; exact ⟨_, ReadsAll.nil, fun _ z => nomatch z⟩
  | (d, d') :: ds, _, _, h, r => by
    cases h with
    | cons h1 h2 =>
      cases r with
      | cons r1 r2 =>
        obtain ⟨as, q1, n1⟩ := Dq.reads I d' _ _ h1 r1
        obtain ⟨bs, q2, n2⟩ := DqAll.readsV I ds _ _ h2 r2
        refine ⟨_, ReadsAll.cons q1 q2, fun z hm => ?_⟩
        simp only [List.map_cons, hasListAll, Bool.or_eq_false_iff] at z
        rcases List.mem_append.mp hm with e | e
        · exact n1 z.1 e
        · exact n2 z.2 e
end
end
end My

namespace My
open PySem PySem.Spec PyProof.Rows L2
def topS (i : Nat) : Stmt := PySem.Challenge.pw_dustwithin_k07_refusals_by_hand.main.body.getD i (.Pass ⟨0, 0, 0, 0⟩)
abbrev sSpread : Stmt := topS 15
abbrev sOpen : Stmt := topS 16
abbrev sTake : Stmt := topS 17
/-! ### the pen -/
structure PenAt (H : Hp) (p : Addr) (t : Nat) : Prop where
  ex : ∃ (c : Addr) (cells : List Int) (at' rest : Int), H p = some (.lst [.ref c, .int at', .int rest]) ∧ H c = some (.lst (cells.map V.int)) ∧ 0 ≤ at' ∧ at' ≤ (t : Int)
theorem ne_len {H : Hp} {p c : Addr} {xs ys : List V} (h : H p = some (.lst xs)) (g : H c = some (.lst ys)) (e : xs ≠ ys) : c ≠ p := by
  intro z; subst z; rw [h] at g; cases g; exact e rfl
theorem pen_ne {H : Hp} {p c : Addr} {x : Addr} {i j : Int} {cells : List Int} (h : H p = some (.lst [.ref x, .int i, .int j])) (g : H c = some (.lst (cells.map V.int))) : c ≠ p :=
  ne_len h g (by intro z; cases cells with | nil => cases z | cons a r => cases z)
def But (p : Addr) (H H' : Hp) : Prop := ∀ b o, b ≠ p → H b = some o → H' b = some o
theorem But.of {p : Addr} {H H' : Hp} (e : Same H H') : But p H H' := fun b o _ => e b o
theorem But.trans {p : Addr} {H H1 H2 : Hp} (a : But p H H1) (b : But p H1 H2) : But p H H2 := fun c o n h => b c o n (a c o n h)
theorem But.upd {p : Addr} {H : Hp} {o : HO} : But p H (upd H p o) := fun b u n h => by rw [upd_ne n]; exact h
theorem PenAt.same {H H' : Hp} {p : Addr} {t u : Nat} (e : Same H H') (h : t ≤ u) (P : PenAt H p t) : PenAt H' p u := by
  obtain ⟨c, cells, x, y, h1, h2, h3, h4⟩ := P.ex
  exact ⟨c, cells, x, y, e _ _ h1, e _ _ h2, h3, by omega⟩
theorem Same.upd {H : Hp} {p : Addr} {o : HO} (n : H p = none) : Same H (upd H p o) := fun b u h => by rw [upd_ne (ne_of_none h n)]; exact h
structure PenC (H : Hp) (p c : Addr) (t : Nat) : Prop where
  ex : ∃ (cells : List Int) (at' rest : Int), H p = some (.lst [.ref c, .int at', .int rest]) ∧ H c = some (.lst (cells.map V.int)) ∧ 0 ≤ at' ∧ at' ≤ (t : Int)
theorem PenC.any {H : Hp} {p c : Addr} {t : Nat} (h : PenC H p c t) : PenAt H p t := by
  obtain ⟨cells, x, y, h⟩ := h.ex
  exact ⟨c, cells, x, y, h⟩
theorem PenAt.c {H : Hp} {p : Addr} {t : Nat} (h : PenAt H p t) : ∃ c, PenC H p c t := by
  obtain ⟨c, cells, x, y, h⟩ := h.ex
  exact ⟨c, cells, x, y, h⟩
theorem PenC.same {H H' : Hp} {p c : Addr} {t u : Nat} (e : Same H H') (h : t ≤ u) (P : PenC H p c t) : PenC H' p c u := by
  obtain ⟨cells, x, y, h1, h2, h3, h4⟩ := P.ex
  exact ⟨cells, x, y, e _ _ h1, e _ _ h2, h3, by omega⟩
theorem PenC.at_c {H : Hp} {p c : Addr} {t : Nat} (h : PenC H p c t) : H c ≠ none := by
  obtain ⟨cells, x, y, h1, h2, _⟩ := h.ex
  rw [h2]; exact fun z => nomatch z
theorem PenC.upd {H : Hp} {p c : Addr} {t u : Nat} (P : PenC H p c t) {q : Addr} (h1 : q ≠ p) (h2 : q ≠ c) (h : t ≤ u) (o : HO) : PenC (upd H q o) p c u := by
  obtain ⟨cells, x, y, g1, g2, g3, g4⟩ := P.ex
  exact ⟨cells, x, y, by rw [upd_ne h1.symm]; exact g1, by rw [upd_ne h2.symm]; exact g2, g3, by omega⟩
/-! ### promises -/
def spSpread : Sp := fun vs H Q _ => ∃ (c a : Int), vs = [.int c, .int a] ∧ 0 ≤ a ∧ a < 2 ^ 30 ∧ ∀ (r : Int) (H' : Hp), Same H H' → Q (.int r) H'
def spOpen (K : PySem.W.Frag) : Sp := fun vs H Q _ => ∃ (a : Addr) (ns : List Int), vs = [.ref a] ∧ SqL K H a (ns.map V.int) ∧ ns.length ≤ 63 ∧ ∀ (p : Addr) (H' : Hp), H p = none → Same H H' → PenAt H' p 0 → Q (.ref p) H'
def spTake : Sp := fun vs H Q _ => ∃ (p : Addr) (n : Int) (t : Nat), vs = [.ref p, .int n] ∧ 0 < n ∧ n.natAbs < 2 ^ 8000 ∧ PenAt H p t ∧ t < 2 ^ 29 ∧ ∀ (m : Int) (H' : Hp), 0 ≤ m → m < n → But p H H' → PenAt H' p (t + 1) → Q (.int m) H'
def spTakeC : Sp := fun vs H Q _ => ∃ (p c : Addr) (n : Int) (t : Nat), vs = [.ref p, .int n] ∧ 0 < n ∧ n.natAbs < 2 ^ 8000 ∧ PenC H p c t ∧ t < 2 ^ 29 ∧ ∀ (m : Int) (H' : Hp), 0 ≤ m → m < n → But p H H' → PenC H' p c (t + 1) → Q (.int m) H'
section
variable {P : Program} {w : World} {K : PySem.W.Frag} {mg : Str → Option Value} {base : Heap}
def primesV : List V := [.int 2147483629, .int 2147483587, .int 2147483579, .int 2147483563, .int 2147483549, .int 2147483543, .int 2147483497, .int 2147483489] ++ [.int 2147483477, .int 2147483423, .int 2147483399, .int 2147483353, .int 2147483323]
theorem prime_at {j : Int} (h0 : 0 ≤ j) (h1 : j < 13) : ∃ q : Int, atI primesV j = some (.int q) ∧ 0 < q ∧ q < 2147483648 := by
  have h : j = 0 ∨ j = 1 ∨ j = 2 ∨ j = 3 ∨ j = 4 ∨ j = 5 ∨ j = 6 ∨ j = 7 ∨ j = 8 ∨ j = 9 ∨ j = 10 ∨ j = 11 ∨ j = 12 := by omega
  rcases h with rfl | rfl | rfl | rfl | rfl | rfl | rfl | rfl | rfl | rfl | rfl | rfl | rfl <;> exact ⟨_, rfl, by decide, by decide⟩
theorem mod_at {x : Int} : 0 ≤ x % 13 ∧ x % 13 < 13 := ⟨Int.emod_nonneg _ (by decide), Int.emod_lt_of_pos _ (by decide)⟩
theorem mod_lt {x q : Int} (h : 0 < q) (h2 : q < 2147483648) : 0 ≤ x % q ∧ x % q < 2147483648 := ⟨Int.emod_nonneg _ (by omega), by have := Int.emod_lt_of_pos x h; omega⟩
theorem scSpread : FnScope ["cell", "at", "primes", "one", "two", "three"] ["cell", "at"] (defScope sSpread) := ⟨rfl, rfl, rfl, by decide +kernel, rfl, by decide +kernel, by decide +kernel⟩
theorem pow_ok {i : Int} {j : Int} (hj : j = 3 ∨ j = 5) (h0 : 0 ≤ i) (h1 : i < 2 ^ 64) : CPow i j := by
  refine ⟨by omega, by omega, ?_⟩
  omega
theorem ok_spread {f : Addr} {fd : FuncData} (F : Fun K "_law_spread" "_law_spread" sSpread f fd) : FnOk P w K mg base CX0 1 f fd ["cell", "at"] spSpread := by
  refine F.ok scSpread (fun vs H Q E h => ?_) (fun cdv A outer s H vs Q E hr h => ?_)
  · obtain ⟨c, a, rfl, _⟩ := h
    rfl
  · obtain ⟨c, a, rfl, ha0, ha1, k⟩ := h
    refine ⟨_, pss_cons (ps_if (pt_cmpR op_ge (pv 0) (pe_op op_pow pe_int pe_int) (nomark _)) (pss_one (ps_ret (pv 0))) pss_nil)
      (pss_cons (ps_set (i := 2) scSpread.nd rfl (Or.inl rfl) (pe_lst (pa_cons pe_int (pa_cons pe_int (pa_cons pe_int (pa_cons pe_int (pa_cons pe_int (pa_cons pe_int (pa_cons pe_int (pa_cons pe_int pa_nil))))))))))
      (pss_cons (ps_set (i := 2) scSpread.nd rfl (Or.inl rfl) (pe_op op_cat (pv 2) (pe_lst (pa_cons pe_int (pa_cons pe_int (pa_cons pe_int (pa_cons pe_int (pa_cons pe_int pa_nil))))))))
      (pss_cons (ps_set (i := 3) scSpread.nd rfl (Or.inl rfl) (pe_op op_mod (pe_op op_pow (pe_op op_add (pe_op op_add (pe_op op_mul (pe_op op_mod (pv 0) pe_int) (pe_op op_add (pe_op op_mul pe_int (pv 1)) pe_int)) (pe_op op_mul (pv 1) pe_int)) pe_int) pe_int)
        (pe_ix ix_list (pv 2) (pe_op op_mod (pv 1) pe_int) (fun _ _ => rfl))))
      (pss_cons (ps_set (i := 4) scSpread.nd rfl (Or.inl rfl) (pe_op op_mod (pe_op op_pow (pe_op op_add (pe_op op_add (pe_op op_mul (pv 3) (pe_op op_add (pv 1) pe_int)) (pe_op op_mod (pv 0) pe_int)) pe_int) pe_int)
        (pe_ix ix_list (pv 2) (pe_op op_mod (pe_op op_add (pv 1) pe_int) pe_int) (fun _ _ => rfl))))
      (pss_cons (ps_set (i := 5) scSpread.nd rfl (Or.inl rfl) (pe_op op_mod (pe_op op_pow (pe_op op_add (pe_op op_add (pv 4) (pe_op op_mod (pv 3) pe_int)) (pv 1)) pe_int)
        (pe_ix ix_list (pv 2) (pe_op op_mod (pe_op op_add (pv 1) pe_int) pe_int) (fun _ _ => rfl))))
      (pss_one (ps_ret (pe_op op_add (pe_op op_mul (pe_op op_add (pe_op op_mul (pv 3) pe_int) (pv 4)) pe_int) (pv 5))))))))), ?_⟩
    refine ⟨_, rfl, _, _, rfl, rfl, ⟨by decide, by decide, by decide⟩, _, _, rfl, rfl, _, rfl, ite2 (fun _ => ⟨_, rfl, k _ _ (Same.refl H)⟩) (fun _ => ?_)⟩
    -- primes
    refine ⟨by decide, fun l1 n1 => ?_⟩
    refine ⟨_, rfl, by decide, fun l2 n2 => ?_⟩
    have l21 : l1 ≠ l2 := ne_of_none upd_same n2
    refine ⟨l1, l2, _, _, rfl, rfl, (by rw [upd_ne l21]; exact upd_same), upd_same, by decide, fun l3 n3 => ?_⟩
    -- one
    have c0 := Int.emod_nonneg c (show (1000000007 : Int) ≠ 0 by decide)
    have c1 := Int.emod_lt_of_pos c (show (0 : Int) < 1000000007 by decide)
    have b0 : 0 ≤ c % 1000000007 * (2 * a + 69069) := Int.mul_nonneg c0 (by omega)
    have b1 : c % 1000000007 * (2 * a + 69069) ≤ 1000000007 * (2 * 1073741824 + 69069) := Int.mul_le_mul (by omega) (by omega) (by omega) (by decide)
    obtain ⟨q1, a1, q10, q11⟩ := prime_at (mod_at (x := a)).1 mod_at.2
    refine ⟨_, rfl, _, _, rfl, rfl, (by show (0 : Int) < 1000000007; decide), _, rfl, _, _, rfl, rfl, .inl ⟨by decide, by decide⟩, _, _, rfl, rfl, _, _, rfl, rfl, .inl ⟨by omega, by omega⟩, _, rfl, _, _, rfl, rfl, .inl ⟨by omega, by omega⟩, _, _, rfl, rfl, _, _, rfl, rfl,
      _, _, rfl, rfl, pow_ok (.inl rfl) (by omega) (by omega), _, rfl, _, rfl, _, _, rfl, rfl, (by show (0 : Int) < 13; decide), l3, primesV, _, _, rfl, rfl, SqL.of upd_same, a1, _, _, rfl, rfl, q10, ?_⟩
    dsimp only
    generalize hz : (c % 1000000007 * (2 * a + 69069) + a * 40503 + 977) ^ (3 : Int).toNat % q1 = one
    have o1 := hz ▸ mod_lt (x := (c % 1000000007 * (2 * a + 69069) + a * 40503 + 977) ^ (3 : Int).toNat) q10 q11
    -- two
    obtain ⟨q2, a2, q20, q21⟩ := prime_at (mod_at (x := a + 5)).1 mod_at.2
    have d0 := Int.emod_nonneg c (show (65537 : Int) ≠ 0 by decide)
    have d1 := Int.emod_lt_of_pos c (show (0 : Int) < 65537 by decide)
    have e0 : 0 ≤ one * (a + 3) := Int.mul_nonneg o1.1 (by omega)
    have e1 : one * (a + 3) ≤ 2147483648 * (1073741824 + 3) := Int.mul_le_mul (by omega) (by omega) (by omega) (by decide)
    refine ⟨_, rfl, _, rfl, _, _, rfl, rfl, _, _, rfl, rfl, .inl ⟨by omega, by omega⟩, _, rfl, _, _, rfl, rfl, (by show (0 : Int) < 65537; decide), _, _, rfl, rfl, _, _, rfl, rfl,
      _, _, rfl, rfl, pow_ok (.inr rfl) (by omega) (by omega), _, rfl, _, rfl, _, _, rfl, rfl, _, _, rfl, rfl, (by show (0 : Int) < 13; decide), l3, primesV, _, _, rfl, rfl, SqL.of upd_same, a2, _, _, rfl, rfl, q20, ?_⟩
    dsimp only
    generalize hy : (one * (a + 3) + c % 65537 + 5) ^ (5 : Int).toNat % q2 = two
    have o2 := hy ▸ mod_lt (x := (one * (a + 3) + c % 65537 + 5) ^ (5 : Int).toNat) q20 q21
    -- three
    obtain ⟨q3, a3, q30, q31⟩ := prime_at (mod_at (x := a + 7)).1 mod_at.2
    have g0 := Int.emod_nonneg one (show (1009 : Int) ≠ 0 by decide)
    have g1 := Int.emod_lt_of_pos one (show (0 : Int) < 1009 by decide)
    refine ⟨_, rfl, _, rfl, _, _, rfl, rfl, (by show (0 : Int) < 1009; decide), _, _, rfl, rfl, _, rfl, _, _, rfl, rfl,
      _, _, rfl, rfl, pow_ok (.inl rfl) (by omega) (by omega), _, rfl, _, rfl, _, _, rfl, rfl, _, _, rfl, rfl, (by show (0 : Int) < 13; decide), l3, primesV, _, _, rfl, rfl, SqL.of upd_same, a3, _, _, rfl, rfl, q30, ?_⟩
    refine ⟨_, rfl, _, _, rfl, rfl, .inl ⟨by omega, by omega⟩, _, rfl, _, _, rfl, rfl, _, _, rfl, rfl, .inl ⟨by omega, by omega⟩, _, rfl, _, _, rfl, rfl, ?_⟩
    exact k _ _ (((Same.upd n1).trans (Same.upd n2)).trans (Same.upd n3))

theorem scTake : FnScope ["pen", "many", "at", "cell", "found"] ["pen", "many"] (defScope sTake) := ⟨rfl, rfl, rfl, by decide +kernel, rfl, by decide +kernel, by decide +kernel⟩
theorem nat_at {xs : List Int} {i : Int} (h0 : 0 ≤ i) (h1 : i < xs.length) : ∃ v : Int, atI (xs.map V.int) i = some (.int v) := by
  obtain ⟨j, rfl⟩ : ∃ j : Nat, i = (j : Int) := ⟨i.toNat, by omega⟩
  have hj : j < xs.length := by omega
  exact ⟨xs[j], atI_nat (by rw [List.getElem?_map, List.getElem?_eq_getElem hj]; rfl)⟩
theorem mapInt_len (xs : List Int) : ((xs.map V.int).length : Int) = (xs.length : Int) := by rw [List.length_map]
theorem ok_takeC {f fS : Addr} {fd fdS : FuncData} (F : Fun K "_law_take" "_law_take" sTake f fd) (ml : mg "len" = none) (FS : Fun K "_law_spread" "_law_spread" sSpread fS fdS) (bS : Binds K fdS ["cell", "at"] []) (gS : mg "_law_spread" = some (.ref fS)) :
    FnOk P w K mg base CX0 2 f fd ["pen", "many"] spTakeC := by
  have GS : FnOk P w K mg base CX0 1 fS fdS ["cell", "at"] spSpread := ok_spread FS
  refine F.ok scTake (fun vs H Q E h => ?_) (fun cdv A outer s H vs Q E hr h => ?_)
  · obtain ⟨p, c, n, t, rfl, _⟩ := h
    rfl
  · obtain ⟨p, c, n, t, rfl, n0, nb, PA, tb, k⟩ := h
    obtain ⟨cells, a1, r1, hp, hc, a10, a11⟩ := PA.ex
    have ncp : c ≠ p := pen_ne hp hc
    refine ⟨_, C8.pss_cut (ps_if (pt_cmpR op_lt (pe_ix ix_list (pv 0) pe_int (fun _ _ => rfl)) (pv 1) (nomark _))
        (pss_cons (ps_set (i := 2) scTake.nd rfl (Or.inl rfl) (pe_ix ix_list (pv 0) pe_int (fun _ _ => rfl)))
        (pss_cons (ps_set (i := 3) scTake.nd rfl (Or.inl rfl) pe_int)
        (C8.pss_cut (ps_if (pt_cmpR op_lt (pv 2) (pe_callB call_len_seq (by rfl) ml PySem.boot_len (pa_cons (pe_ix ix_list (pv 0) pe_int (fun _ _ => rfl)) pa_nil)) (nomark _))
            (pss_one (ps_set (i := 3) scTake.nd rfl (Or.inl rfl) (pe_ix ix_list (pe_ix ix_list (pv 0) pe_int (fun _ _ => rfl)) (pv 2) (fun _ _ => rfl))))
            (pss_one (ps_if (pt_cmpR op_gt (pe_callB call_len_seq (by rfl) ml PySem.boot_len (pa_cons (pe_ix ix_list (pv 0) pe_int (fun _ _ => rfl)) pa_nil)) pe_int (nomark _))
              (pss_one (ps_set (i := 3) scTake.nd rfl (Or.inl rfl) (pe_op op_mod
                (pe_ix ix_list (pe_ix ix_list (pv 0) pe_int (fun _ _ => rfl)) (pe_op op_mod (pe_op op_add (pe_op op_mul (pv 2) pe_int) pe_int) (pe_callB call_len_seq (by rfl) ml PySem.boot_len (pa_cons (pe_ix ix_list (pv 0) pe_int (fun _ _ => rfl)) pa_nil))) (fun _ _ => rfl))
                (pe_op op_add (pe_op op_pow pe_int pe_int) (pv 2))))) pss_nil)))
        (pss_cons (ps_asg (pe_op op_add (pv 2) pe_int) (pg_sub (pv 0) pe_int set_list))
        (pss_one (ps_asg (pe_call GS hr (by rfl) gS FS.kp bS .nil pass0 (pa_cons (pv 3) (pa_cons (pv 2) pa_nil))) (pg_sub (pv 0) pe_int set_list)))))))
        pss_nil)
      (pss_cons (ps_set (i := 4) scTake.nd rfl (Or.inl rfl) (pe_op op_mod (pe_ix ix_list (pv 0) pe_int (fun _ _ => rfl)) (pv 1)))
      (pss_cons (ps_asg (pe_op op_fdivW (pe_ix ix_list (pv 0) pe_int (fun _ _ => rfl)) (pv 1)) (pg_sub (pv 0) pe_int set_list))
      (pss_one (ps_ret (pv 4))))), ?_⟩
    -- what holds behind the if
    refine ⟨fun σ H2 => ∃ (x2 x3 : Option V) (a2 r2 : Int), σ = [some (.ref p), some (.int n), x2, x3, none] ∧ H2 p = some (.lst [.ref c, .int a2, .int r2]) ∧ H2 c = some (.lst (cells.map V.int)) ∧ 0 ≤ a2 ∧ a2 ≤ (t : Int) + 1 ∧ But p H H2, ?_, ?_⟩
    · refine ⟨_, rfl, p, _, 2, .int r1, rfl, rfl, SqL.of hp, atI_nat (j := 2) rfl, _, rfl, _, _, rfl, rfl, _, rfl, ite2 (fun _ => ?_) (fun _ => ?_)⟩
      · refine ⟨_, rfl, p, _, 1, .int a1, rfl, rfl, SqL.of hp, atI_nat (j := 1) rfl, ?_⟩
        -- at, cell
        refine ⟨fun σ H2 => ∃ z : Int, σ = [some (.ref p), some (.int n), some (.int a1), some (.int z), none] ∧ H2 = H, ?_, ?_⟩
        · refine ⟨_, rfl, _, rfl, p, _, 0, .ref c, rfl, rfl, SqL.of hp, atI_nat (j := 0) rfl, c, _, rfl, .inl (SqL.of hc), _, _, rfl, rfl, _, rfl, ite2 (fun e => ?_) (fun e => ?_)⟩
          · have e1 : a1 < ((cells.map V.int).length : Int) := of_decide_eq_true e
            rw [mapInt_len] at e1
            obtain ⟨v, hv⟩ := nat_at a10 e1
            exact ⟨_, rfl, p, _, 0, .ref c, rfl, rfl, SqL.of hp, atI_nat (j := 0) rfl, _, rfl, c, _, a1, .int v, rfl, rfl, SqL.of hc, hv, v, rfl, rfl⟩
          · refine ⟨_, rfl, p, _, 0, .ref c, rfl, rfl, SqL.of hp, atI_nat (j := 0) rfl, c, _, rfl, .inl (SqL.of hc), _, _, rfl, rfl, _, rfl, ite2 (fun e2 => ?_) (fun e2 => ?_)⟩
            · have e3 : 0 < ((cells.map V.int).length : Int) := of_decide_eq_true e2
              have e4 := e3
              rw [mapInt_len] at e4
              obtain ⟨v, hv⟩ := nat_at (Int.emod_nonneg (a1 * 5 + 3) (by omega : (cells.length : Int) ≠ 0)) (Int.emod_lt_of_pos (a1 * 5 + 3) e4)
              rw [← mapInt_len] at hv
              have h17 : (0 : Int) < 10 ^ (17 : Int).toNat + a1 := by
                have : (0 : Int) < 10 ^ (17 : Int).toNat := by decide
                omega
              exact ⟨_, rfl, p, _, 0, .ref c, rfl, rfl, SqL.of hp, atI_nat (j := 0) rfl, _, rfl, _, _, rfl, rfl, .inl ⟨by omega, by omega⟩, _, _, rfl, rfl, _, rfl, p, _, 0, .ref c, rfl, rfl, SqL.of hp, atI_nat (j := 0) rfl, c, _, rfl, .inl (SqL.of hc), _, _, rfl, rfl, e3,
                c, _, _, .int v, rfl, rfl, SqL.of hc, hv, _, _, rfl, rfl, ⟨by decide, by decide, by decide⟩, _, rfl, _, _, rfl, rfl, _, _, rfl, rfl, h17, _, rfl, rfl⟩
            · exact ⟨0, rfl, rfl⟩
        · rintro σ H2 ⟨z, rfl, rfl⟩
          refine ⟨_, rfl, _, _, rfl, rfl, _, rfl, p, _, _, 1, rfl, rfl, hp, rfl, ?_⟩
          refine ⟨_, rfl, _, rfl, z, a1, rfl, a10, by omega, fun r H3 e3 => ?_⟩
          have hp3 : H3 p = some (.lst [.ref c, .int (a1 + 1), .int r1]) := e3 _ _ upd_same
          refine ⟨_, rfl, p, _, _, 2, rfl, rfl, hp3, rfl, ?_⟩
          refine ⟨_, _, a1 + 1, r, rfl, upd_same, ?_, by omega, by omega, (But.upd.trans (But.of e3)).trans But.upd⟩
          rw [upd_ne ncp]
          exact e3 _ _ (by rw [upd_ne ncp]; exact hc)
      · exact ⟨none, none, a1, r1, rfl, hp, hc, a10, by omega, fun b o _ e => e⟩
    · rintro σ H2 ⟨x2, x3, a2, r2, rfl, hp2, hc2, a20, a21, bt⟩
      refine ⟨_, rfl, p, _, 2, .int r2, rfl, rfl, SqL.of hp2, atI_nat (j := 2) rfl, _, rfl, _, _, rfl, rfl, n0, ?_⟩
      refine ⟨_, rfl, p, _, 2, .int r2, rfl, rfl, SqL.of hp2, atI_nat (j := 2) rfl, _, rfl, _, _, rfl, rfl, wide_div n0 nb (by decide) (by decide), ?_⟩
      refine ⟨_, rfl, p, _, _, 2, rfl, rfl, hp2, rfl, ?_⟩
      exact ⟨_, rfl, k _ _ (Int.emod_nonneg _ (by omega)) (Int.emod_lt_of_pos _ n0) (bt.trans But.upd) ⟨cells, a2, r2 / n, upd_same, by rw [upd_ne ncp]; exact hc2, a20, by omega⟩⟩

theorem ok_take {f fS : Addr} {fd fdS : FuncData} (F : Fun K "_law_take" "_law_take" sTake f fd) (ml : mg "len" = none) (FS : Fun K "_law_spread" "_law_spread" sSpread fS fdS) (bS : Binds K fdS ["cell", "at"] []) (gS : mg "_law_spread" = some (.ref fS)) :
    FnOk P w K mg base CX0 2 f fd ["pen", "many"] spTake := (ok_takeC F ml FS bS gS).imp fun vs H Q E h => by
  obtain ⟨p, n, t, h1, h2, h3, PA, h4, k⟩ := h
  obtain ⟨c, PC⟩ := PA.c
  exact ⟨p, c, n, t, h1, h2, h3, PC, h4, fun m H' a b d e => k m H' a b d e.any⟩
theorem scOpen : FnScope ["script", "cells", "k", "cell"] ["script"] (defScope sOpen) := ⟨rfl, rfl, rfl, by decide +kernel, rfl, by decide +kernel, by decide +kernel⟩
theorem cut_ints (ns : List Int) (lo hi : Option Int) : ∃ ms : List Int, cutV (ns.map V.int) lo hi = ms.map V.int ∧ ms = (ns.drop (HT.sIx ns.length 0 lo)).take (HT.sIx ns.length ns.length hi - HT.sIx ns.length 0 lo) := by
  refine ⟨_, ?_, rfl⟩
  unfold cutV
  rw [List.length_map, List.map_take, List.map_drop]
theorem sIx_nat (n : Nat) (d : Nat) (k : Nat) : HT.sIx n d (some (k : Int)) = min k n := by
  unfold HT.sIx
  simp only
  rw [if_neg (by omega)]
  omega
theorem cut12 (ns : List Int) : ∃ ms : List Int, cutV (ns.map V.int) none (some 12) = ms.map V.int ∧ ms.length = min 12 ns.length := by
  obtain ⟨ms, h1, h2⟩ := cut_ints ns none (some 12)
  refine ⟨ms, h1, ?_⟩
  rw [h2, List.length_take, List.length_drop]
  have a1 : HT.sIx ns.length 0 none = 0 := rfl
  have a2 : HT.sIx ns.length ns.length (some 12) = min 12 ns.length := sIx_nat _ _ 12
  rw [a1, a2]; omega
theorem cut63 (ns : List Int) : ∃ ms : List Int, cutV (ns.map V.int) (some 12) (some 63) = ms.map V.int ∧ ms.length ≤ ns.length - 12 := by
  obtain ⟨ms, h1, h2⟩ := cut_ints ns (some 12) (some 63)
  refine ⟨ms, h1, ?_⟩
  rw [h2, List.length_take, List.length_drop]
  have a1 : HT.sIx ns.length 0 (some 12) = min 12 ns.length := sIx_nat _ _ 12
  have a2 : HT.sIx ns.length ns.length (some 63) = min 63 ns.length := sIx_nat _ _ 63
  rw [a1, a2]; omega
theorem set_ints (ns : List Int) (j : Nat) (v : Int) : (ns.map V.int).set j (.int v) = (ns.set j v).map V.int := by rw [List.map_set]
theorem ok_open {f : Addr} {fd : FuncData} (F : Fun K "_law_open" "_law_open" sOpen f fd) (m1 : mg "list" = none) (m2 : mg "enumerate" = none) : FnOk P w K mg base CX0 1 f fd ["script"] (spOpen K) := by
  refine F.ok scOpen (fun vs H Q E h => ?_) (fun cdv A outer s H vs Q E hr h => ?_)
  · obtain ⟨a, ns, rfl, _⟩ := h
    rfl
  · obtain ⟨a, ns, rfl, hS, hl, k⟩ := h
    refine ⟨_, pss_cons (ps_set (i := 1) scOpen.nd rfl (Or.inl rfl) (pe_callTy call_list_of (by rfl) m1 boot_list (pa_cons (pe_slice sl_list (pv 0) po_none (po_some pe_int)) pa_nil)))
      (pss_cons (ps_for PassesOwn.never rfl (pi_enum (by rfl) m2 (pa_cons (pe_slice sl_list (pv 0) (po_some pe_int) (po_some pe_int)) pa_nil))
        (pg_tup (by rfl) (pgs_cons (pg_name (i := 2) scOpen.nd rfl (Or.inl rfl)) (pgs_cons (pg_name (i := 3) scOpen.nd rfl (Or.inl rfl)) pgs_nil)))
        (pss_one (ps_asg (pe_op op_add (pe_ix ix_list (pv 1) (pe_op op_mod (pv 2) pe_int) (fun _ _ => rfl)) (pv 3)) (pg_sub (pv 1) (pe_op op_mod (pv 2) pe_int) set_list))))
      (pss_one (ps_ret (pe_lst (pa_cons (pv 1) (pa_cons pe_int (pa_cons pe_int pa_nil))))))), ?_⟩
    obtain ⟨ms, e1, l1⟩ := cut12 ns
    obtain ⟨us, e2, l2⟩ := cut63 ns
    refine ⟨_, rfl, 12, rfl, a, _, rfl, hS, fun p1 n1 => ?_⟩
    rw [e1]
    refine ⟨p1, _, rfl, .inl (SqL.of upd_same), fun c nc => ?_⟩
    have s1 : Same H (upd (upd H p1 (.lst (ms.map V.int))) c (.lst (ms.map V.int))) := (Same.upd n1).trans (Same.upd nc)
    refine ⟨_, rfl, 12, rfl, 63, rfl, a, _, rfl, s1.seq hS, fun p2 n2 => ?_⟩
    rw [e2]
    have nc2 : c ≠ p2 := ne_of_none upd_same n2
    refine ⟨p2, us.map V.int, rfl, SqL.of upd_same, for_it (walk_enum (K := K) (a := p2) (xs := us.map V.int)) (fun i σ H2 => ∃ (x2 x3 : Option V) (cs : List Int), σ = [some (.ref a), some (.ref c), x2, x3] ∧ H2 c = some (.lst (cs.map V.int)) ∧ cs.length = ms.length ∧
        (∀ b o, b ≠ c → upd (upd (upd H p1 (.lst (ms.map V.int))) c (.lst (ms.map V.int))) p2 (.lst (us.map V.int)) b = some o → H2 b = some o)) ?_ ?_ ?_ ?_⟩
    · exact ⟨none, none, ms, rfl, by rw [upd_ne nc2]; exact upd_same, rfl, fun _ _ _ e => e⟩
    · rintro i σ H2 hi ⟨x2, x3, cs, rfl, hc, hl, hk⟩
      exact SqL.of (hk _ _ nc2.symm upd_same)
    · rintro i x σ H2 H3 hi ⟨x2, x3, cs, rfl, hc, hlc, hk⟩ ⟨T, y, z, rfl, hT, rfl, ey, ez⟩
      obtain rfl : V.int ((i : Nat) : Int) = y := Option.some.inj ey
      have hi' : i < us.length := by rw [List.length_map] at hi; exact hi
      obtain ⟨v, rfl⟩ : ∃ v, z = V.int v := by
        have ez' : (us.map V.int)[i]? = some z := ez
        rw [List.getElem?_map, List.getElem?_eq_getElem hi'] at ez'
        exact ⟨us[i], (Option.some.inj ez').symm⟩
      have m12 : ms.length = 12 := by omega
      have hcT : c ≠ T := ne_of_none hc hT
      have b0 := Int.emod_nonneg ((i : Nat) : Int) (show (12 : Int) ≠ 0 by decide)
      have b1 := Int.emod_lt_of_pos ((i : Nat) : Int) (show (0 : Int) < 12 by decide)
      obtain ⟨u, hu⟩ := nat_at (xs := cs) b0 (by omega)
      refine ⟨T, _, rfl, SqT.of upd_same, rfl, _, _, rfl, _, _, rfl, rfl, ?_⟩
      refine ⟨_, rfl, _, rfl, _, _, rfl, rfl, (by show (0 : Int) < 12; decide), c, _, _, _, rfl, rfl, SqL.of (by rw [upd_ne hcT]; exact hc), hu, _, rfl, _, _, rfl, rfl, ?_⟩
      have hj : ixN (cs.map V.int).length (((i : Nat) : Int) % 12) = some (((i : Nat) : Int) % 12).toNat := by
        unfold ixN
        rw [List.length_map, if_pos b0, if_pos (by omega)]
      refine ⟨_, rfl, _, rfl, _, _, rfl, rfl, (by show (0 : Int) < 12; decide), c, _, _, _, rfl, rfl, (by rw [upd_ne hcT]; exact hc), hj, ?_⟩
      refine ⟨_, _, cs.set (((i : Nat) : Int) % 12).toNat (u + v), rfl, by rw [upd_same, set_ints], by rw [List.length_set]; exact hlc, fun b o hb e => ?_⟩
      rw [upd_ne hb, upd_ne (ne_of_none (hk b o hb e) hT)]
      exact hk b o hb e
    · rintro σ H2 ⟨x2, x3, cs, rfl, hc, hlc, hk⟩
      refine ⟨_, rfl, (by show 3 ≤ sizeLine; decide), fun p np => ?_⟩
      have sH : Same H H2 := fun b o e => hk b o (ne_of_none (Same.upd n1 b o e) nc) ((s1.trans (Same.upd n2)) b o e)
      have ncp : c ≠ p := ne_of_none hc np
      exact k p _ (sH.free np) (sH.trans (Same.upd np)) ⟨c, cs, 0, 0, upd_same, by rw [upd_ne ncp]; exact hc, by decide, by decide⟩
end
end My

namespace My
open PySem PySem.Spec PyProof.Rows L2
/-! ### t[::-1] -/
section
variable {prog : Program} {w : World} {A : Around} {E : Value → Shared → Prop} {s : Shared}
theorem backwards (xs : Array Value) : ((List.range xs.size).filterMap fun (m : Nat) => xs[((xs.size : Int) - 1 + (m : Int) * -1).toNat]?).toArray = xs.toList.reverse.toArray := by
  have e1 : (List.range xs.size).filterMap (fun (m : Nat) => xs[((xs.size : Int) - 1 + (m : Int) * -1).toNat]?) = ((List.range xs.size).map fun k => xs.size - 1 - k).filterMap (xs[·]?) := by
    rw [List.filterMap_map]
    congr 1
    funext m
    show _ = xs[xs.size - 1 - m]?
    have : ((xs.size : Int) - 1 + (m : Int) * -1).toNat = xs.size - 1 - m := by omega
    rw [this]
  rw [e1, PySem.W.krv_range, List.filterMap_reverse, PySem.W.krv_all]
theorem getItem_back {t sl : Addr} {items : Array Value} {tk : Tok} {Q : Value → Shared → Prop} (ht : IsTup s.heap t items) (hs : s.heap.IsSliceOf sl .none .none (.int (-1) tk)) (hsz : items.size ≤ sizeLine)
    (q : Q (.ref s.heap.objs.size) { s with heap := s.heap.push { cls := .type "tuple", data := .seq items.toList.reverse.toArray } }) : wpAny (model prog w) A (getItem (.ref t) (.ref sl)) Q E s := by
  have hfit : sizeOk (.seq items.toList.reverse.toArray) := by show items.toList.reverse.toArray.size ≤ sizeLine; simpa using hsz
  obtain ⟨ob, hob, hcl, hdat⟩ := id hs
  have hT : s.TypeIs (.ref sl) "slice" := ⟨ob, hob, hcl⟩
  unfold getItem; try with_reducible refine wpAny_holding ?_
  first | refine wpAny_bind (wpAny_pure ?_) | skip
  refine wpAny_bind (wpAny_sequenceKey ht.typeIs (by decide) ?_); refine wpAny_bind (wpAny_callSpecial?_slot (name := Str.ofString "__getitem__") ht.typeIs slot_tuple_getitem (wpAny_call_entry slot_tuple_getitem ht.typeIs entry_tuple_getitem ?_ (args_tuple_getitem _ _)))
  show wpAny _ _ (Builtin.Tuple.tupleItemsOf (.ref t) >>= _) _ _ s; refine wpAny_bind (tupleItemsOf_ ht ?_); refine wpAny_bind (wpAny_typeOf hT ?_); rw [if_pos (by decide)]
  have step : ∀ {R : Int × Int × Nat → Shared → Prop}, R ((items.size : Int) - 1, -1, items.size) s → wpAny (model prog w) A.in1 (Builtin.Slice.sliceApplied (.ref sl) (pure (items.size : Int))) R E s := by
    intro R hR; unfold Builtin.Slice.sliceApplied Builtin.Slice.sliceFields
    refine wpAny_bind (wpAny_bind (wpAny_field hob hdat (x := .none) rfl (wpAny_bind (wpAny_field hob hdat (x := .none) rfl (wpAny_bind (wpAny_field hob hdat (x := .int (-1) tk) rfl (wpAny_pure ?_)))))))
    refine wpAny_bind (slicePart_int ?_); show wpAny _ _ (if ((-1 : Int) == 0) = true then _ else _) _ _ s; rw [if_neg (by decide)]
    refine wpAny_bind (PyProof.Rows.slicePart_none (wpAny_bind (PyProof.Rows.slicePart_none (wpAny_bind (wpAny_pure ?_)))))
    show wpAny _ _ (match Builtin.Slice.sliceAdjust none none (-1) (items.size : Int) with | (lo, hi) => pure (lo, (-1 : Int), Builtin.Slice.slicePlaces lo hi (-1))) _ _ s
    have e1 : Builtin.Slice.sliceAdjust none none (-1) (items.size : Int) = ((items.size : Int) - 1, -1) := rfl
    rw [e1]; show wpAny _ _ (pure ((items.size : Int) - 1, (-1 : Int), Builtin.Slice.slicePlaces ((items.size : Int) - 1) (-1) (-1))) _ _ s
    have e2 : Builtin.Slice.slicePlaces ((items.size : Int) - 1) (-1) (-1) = items.size := by
      unfold Builtin.Slice.slicePlaces
      have h1 : ¬ ((-1 : Int) > 0) := by decide
      simp only [h1, if_false]
      by_cases h : (items.size : Int) - 1 > -1
      · rw [if_pos h, show (- -1 : Int) = 1 by decide, Int.ediv_one]; omega
      · rw [if_neg h]; omega
    rw [e2]; exact wpAny_pure hR
  refine wpAny_bind (step ?_)
  show wpAny _ _ (if (((items.size : Int) - 1) == 0 && (-1 : Int) == 1 && items.size == items.size) = true then _ else _) _ _ s
  rw [if_neg (by rw [show ((-1 : Int) == 1) = false by decide, Bool.and_false, Bool.false_and]; decide), backwards]
  first
    | exact wpAny_bind (m := Builtin.Tuple.tupleExact _) (wpAny_newObj_type (wpAny_pure ⟨_, rfl, wpAny_pure q⟩) hfit)
    | exact wpAny_bind (m := Builtin.Tuple.tupleExact _) (wpAny_newObj_type (wpAny_bind (wpAny_pure (wpAny_pure ⟨_, rfl, wpAny_pure q⟩))) hfit)
    | exact wpAny_bind (wpAny_bind (m := Builtin.Tuple.tupleExact _) (wpAny_newObj_type (wpAny_pure (wpAny_pure ⟨_, rfl, wpAny_pure q⟩)) hfit))
    | exact wpAny_bind (wpAny_bind (m := Builtin.Tuple.tupleExact _) (wpAny_newObj_type (wpAny_pure ⟨_, rfl, wpAny_pure q⟩) hfit))
end
section
variable {X : Cx}
def tRevT (K : PySem.W.Frag) (te : TE) : TE := fun σ H Q => te σ H fun x H1 => ∃ a xs, x = .ref a ∧ SqT K H1 a xs ∧ ∀ p, H1 p = none → Q (.ref p) (upd H1 p (.tup xs.reverse))
theorem pe_revT {e : Expr} {te : TE} {k : Nat} {p1 p2 p3 pos : Pos} (he : PE X e te) : PE X (.Subscript e (.Slice none none (some (.UnaryOp .USub (.Constant (.int 1) k p1) p2)) p3) pos) (tRevT X.K te) := by
  refine ⟨fun pins s σ H Q I h => ?_⟩
  refine Subscript_ (thn (he.run pins s σ H _ I h) fun v s1 ⟨x, H1, I1, r1, q1⟩ => ?_)
  obtain ⟨a, xs, ex, hx, q⟩ := q1
  subst ex; cases r1
  have hst : PO X (some (.UnaryOp .USub (.Constant (.int 1) k p1) p2)) (tPart (tUn (rU fun i => .int (-i)) (tC (.int 1)))) := po_some (pe_un un_neg pe_int)
  refine wpAny_Slice (thn (po_none.run pins s1 σ H1 (fun o H2 => o = none ∧ H2 = H1) I1 ⟨rfl, rfl⟩) fun vl s2 ⟨l, H2, I2, pl, el, e2⟩ => ?_)
  subst el e2
  refine thn (po_none.run pins s2 σ H2 (fun o H3 => o = none ∧ H3 = H2) I2 ⟨rfl, rfl⟩) fun vu s3 ⟨u, H3, I3, pu, eu, e3⟩ => ?_
  subst eu e3
  refine thn (hst.run pins s3 σ H3 (fun o H4 => o = some (-1) ∧ H4 = H3) I3 ⟨1, rfl, -1, rfl, rfl, rfl⟩) fun vs s4 ⟨o, H4, I4, ps, eo, e4⟩ => ?_
  subst eo e4
  cases pl; cases pu; cases ps with
  | int i tk =>
  have J : Inv X pins σ H4 { s4 with heap := s4.heap.push { cls := .type "slice", data := .fields #[.none, .none, .int (-1) tk] } } := I4.kept (t' := s4.toks) fun b ob q => Heap.get?_push_of_some _ q
  obtain ⟨its, r, ht, hz⟩ := J.tuple hx
  have hl := r.length
  show wpAny (model X.prog X.w) X.A (subscriptTail e (.Slice none none (some (.UnaryOp .USub (.Constant (.int 1) k p1) p2)) p3) (.ref a) (.ref s4.heap.objs.size)) (EP X pins σ Q) X.xe { s4 with heap := s4.heap.push { cls := .type "slice", data := .fields #[.none, .none, .int (-1) tk] } }
  refine tail_any (ops := [.ref a, .ref s4.heap.objs.size]) ht.typeIs (slot_tuple_getitem.lookup) ?_ (by with_unfolding_all rfl)
  refine getItem_back ht (Heap.IsSliceOf.new _ .none .none (.int (-1) tk)) (by rw [List.size_toArray]; omega) ?_
  refine ⟨.ref _, _, J.laid (t' := s4.toks) (o := .tup xs.reverse) (fun b ob q => Heap.get?_push_of_some _ q) (Nat.le_refl _) ?_, rfl, q _ (J.hok.fresh (Nat.le_refl _))⟩
  exact ⟨by rw [List.length_reverse]; exact hz, _, r.reverse, IsTup.new _ _⟩
end
/-! ### repr -/
section
variable {X : Cx}
def rRepr (K : PySem.W.Frag) : List V → Hp → VK → Prop := fun xs H Q => ∃ (v : V) (d : PyData) (G : Hp), xs = [v] ∧ Same G H ∧ Dq K G v d ∧ d.showable = true ∧ (d.hasDict = true → hasList d = false) ∧ d.depth ≤ 100 ∧ d.shown.length ≤ sizeLine ∧ Q (.str d.shown) H
theorem cr_repr (hg : X.A.guards = some []) (hu : X.A.units + 111 < cLine) : CallR X (.builtin "repr") (rRepr X.K) := by
  intro pins s σ H xs us Q I r h
  obtain ⟨v, d, G, rfl, e, h, hs, hm, hd, hz, q⟩ := h
  have h' := h.mono e
  have key : ∀ a : Addr, us = [.ref a] → RelV v (.ref a) → wpAny (model X.prog X.w) X.A (call (.builtin "repr") us) (EP X pins σ Q) X.xe s := fun a ea ra => by
    subst ea
    obtain ⟨as, hr, hn⟩ := Dq.reads I d v _ h' ra
    exact repr_of_reads' hr hs (fun z => hn (hm z)) hg (by omega) (fun _ _ e => e) (fun h2 u tk hk => ⟨.str _, H, I.kept hk, ⟨_, rfl⟩, q⟩) hz
  cases r with
  | cons r0 rr =>
    cases rr
    cases h with
    | non => cases r0; exact PySem.P.repr_of_none ⟨.str _, H, I.tok _, ⟨_, rfl⟩, q⟩
    | bl b => cases r0; exact PySem.P.repr_of_bool ⟨.str _, H, I.tok _, ⟨_, rfl⟩, q⟩
    | int i =>
      obtain ⟨t, rfl⟩ := r0
      exact PySem.P.repr_of_int (by simpa [PyData.showable] using hs) ⟨.str _, H, I.tok _, ⟨_, rfl⟩, q⟩
    | str x =>
      obtain ⟨t, rfl⟩ := r0
      exact PySem.P.repr_of_str ⟨.str _, H, I.tok _, ⟨_, rfl⟩, q⟩ hz
    | lst _ _ => cases r0; exact key _ rfl rfl
    | tup _ _ => cases r0; exact key _ rfl rfl
    | dct _ _ _ => cases r0; exact key _ rfl rfl
end
/-! ### data made by an expression -/
structure Nw (G H G' H' : Hp) : Prop where
  gg : Same G G'
  gh : Same G' H'
  hh : Same H H'
  old : ∀ b, H b ≠ none → G' b = G b
theorem Nw.refl {G H : Hp} (e : Same G H) : Nw G H G H := ⟨Same.refl _, e, Same.refl _, fun _ _ => rfl⟩
theorem Nw.trans {G H G1 H1 G2 H2 : Hp} (a : Nw G H G1 H1) (b : Nw G1 H1 G2 H2) : Nw G H G2 H2 := by
  refine ⟨a.gg.trans b.gg, b.gh, a.hh.trans b.hh, fun c h => ?_⟩
  have h1 : H1 c ≠ none := by
    cases q : H c with
    | none => exact absurd q h
    | some o => rw [a.hh c o q]; exact fun z => nomatch z
  rw [b.old c h1, a.old c h]
theorem Nw.mk1 {G H : Hp} (e : Same G H) {p : Addr} (n : H p = none) (o : HO) : Nw G H (upd G p o) (upd H p o) := by
  refine ⟨Same.upd (e.free n), fun b u h => ?_, Same.upd n, fun b h => upd_ne (fun z => h (by rw [z]; exact n))⟩
  by_cases hb : b = p
  · subst hb; rw [upd_same] at h ⊢; exact h
  · rw [upd_ne hb] at h ⊢; exact e b u h
theorem PE.imp {X : Cx} {e : Expr} {t t' : TE} (h : PE X e t) (i : ∀ σ H Q, t' σ H Q → t σ H Q) : PE X e t' := ⟨fun pins s σ H Q I q => h.run pins s σ H Q I (i σ H Q q)⟩
theorem PA.imp {X : Cx} {es : List Expr} {t t' : TA} (h : PA X es t) (i : ∀ σ H Q, t' σ H Q → t σ H Q) : PA X es t' := ⟨fun pos pins s σ H Q I q => h.run pos pins s σ H Q I (i σ H Q q)⟩
def tDc (K : PySem.W.Frag) (d : PyData) : TE := fun _ H Q => ∃ G, Same G H ∧ ∀ v G' H', Nw G H G' H' → Dq K G' v d → Q v H'
def tDcs (K : PySem.W.Frag) (ds : List PyData) : TA := fun _ H Q => ∃ G, Same G H ∧ ∀ vs G' H', Nw G H G' H' → DqAll K G' vs ds → Q vs H'
section
variable {X : Cx} {pos : Pos}
theorem dc_int {i : Int} {j : Nat} : PE X (.Constant (.int i) j pos) (tDc X.K (.int i)) := PE.imp pe_int fun _ _ _ ⟨_, e, k⟩ => k _ _ _ (Nw.refl e) (.int i)
theorem dc_str {x : Str} {j : Nat} : PE X (.Constant (.str x) j pos) (tDc X.K (.str x)) := PE.imp pe_str fun _ _ _ ⟨_, e, k⟩ => k _ _ _ (Nw.refl e) (.str x)
theorem dc_bl {b : Bool} {j : Nat} : PE X (.Constant (.bool b) j pos) (tDc X.K (.bool b)) := PE.imp pe_bl fun _ _ _ ⟨_, e, k⟩ => k _ _ _ (Nw.refl e) (.bl b)
theorem dc_non {j : Nat} : PE X (.Constant .none j pos) (tDc X.K .none) := PE.imp pe_non fun _ _ _ ⟨_, e, k⟩ => k _ _ _ (Nw.refl e) .non
theorem dc_neg {i : Int} {j : Nat} {p : Pos} : PE X (.UnaryOp .USub (.Constant (.int i) j p) pos) (tDc X.K (.int (-i))) := PE.imp (pe_un un_neg pe_int) fun _ _ _ ⟨_, e, k⟩ => ⟨i, rfl, k _ _ _ (Nw.refl e) (.int _)⟩
theorem dc_pow {i j : Int} {a b : Nat} {p q : Pos} (h : CPow i j) : PE X (.BinOp (.Constant (.int i) a p) .Pow (.Constant (.int j) b q) pos) (tDc X.K (.int (i ^ j.toNat))) :=
  PE.imp (pe_op op_pow pe_int pe_int) fun _ _ _ ⟨_, e, k⟩ => ⟨i, j, rfl, rfl, h, k _ _ _ (Nw.refl e) (.int _)⟩
theorem das_nil : PA X [] (tDcs X.K []) := PA.imp pa_nil fun _ _ _ ⟨_, e, k⟩ => k _ _ _ (Nw.refl e) .nil
theorem das_cons {e : Expr} {es : List Expr} {d : PyData} {ds : List PyData} (h1 : PE X e (tDc X.K d)) (h2 : PA X es (tDcs X.K ds)) (hs : starEach (e :: es) X.env = (false, eval e X.env) :: starEach es X.env := by rfl) : PA X (e :: es) (tDcs X.K (d :: ds)) :=
  PA.imp (pa_cons h1 h2 hs) fun _ _ _ ⟨G, e, k⟩ => ⟨G, e, fun _ G1 _ n1 d1 => ⟨G1, n1.gh, fun _ _ _ n2 d2 => k _ _ _ (n1.trans n2) (.cons (d1.mono n2.gg) d2)⟩⟩
theorem dc_tup {es : List Expr} {ds : List PyData} {x1} (h : PA X es (tDcs X.K ds)) (hl : ds.length ≤ sizeLine) : PE X (.Tuple es x1 pos) (tDc X.K (.tuple ds)) :=
  PE.imp (pe_tup h) fun _ _ _ ⟨G, e, k⟩ => ⟨G, e, fun vs G1 H1 n1 d1 => ⟨by rw [d1.len]; exact hl, fun p np => k _ _ _ (n1.trans (Nw.mk1 n1.gh np (.tup vs))) (.tup upd_same (d1.mono (Nw.mk1 n1.gh np (.tup vs)).gg))⟩⟩
theorem dc_lst {es : List Expr} {ds : List PyData} (h : PA X es (tDcs X.K ds)) (hl : ds.length ≤ sizeLine) : PE X (.List es pos) (tDc X.K (.list ds)) :=
  PE.imp (pe_lst h) fun _ _ _ ⟨G, e, k⟩ => ⟨G, e, fun vs G1 H1 n1 d1 => ⟨by rw [d1.len]; exact hl, fun p np => k _ _ _ (n1.trans (Nw.mk1 n1.gh np (.lst vs))) (.lst upd_same (d1.mono (Nw.mk1 n1.gh np (.lst vs)).gg))⟩⟩
theorem dc_dict0 : PE X (.Dict [] [] pos) (tDc X.K (.dict [])) :=
  PE.imp pe_dnewK fun _ _ _ ⟨G, e, k⟩ => fun p np => k _ _ _ (Nw.mk1 e np (.dK [])) (.dct upd_same .nil .nil)
theorem dc_dict01 {a b c d : Nat} {p1 p2 p3 p4 : Pos} : PE X (.Dict [some (.Constant (.int 0) a p1), some (.Constant (.int 1) b p2)] [.Constant (.int 1) c p3, .Constant (.int 1) d p4] pos) (tDc X.K (.dict [(.int 0, .int 1), (.int 1, .int 1)])) := by
  refine PE.imp (pe_disp (pps_cons pe_int pe_int (pps_cons pe_int pe_int pps_nil)) rfl rfl (by simp) (by show 2 ≤ 15; decide)) fun _ H Q ⟨G, e, k⟩ => fun p np => ?_
  refine ⟨upd_same, [(.inl 0, .int 1), (.inl 1, .int 1)], rfl, by decide, ?_⟩
  rw [upd_upd]
  exact k _ _ _ (Nw.mk1 e np (.dK [(.inl 0, .int 1), (.inl 1, .int 1)])) (.dct upd_same (.cons (.int _) (.cons (.int _) .nil)) (.cons (.int _) (.cons (.int _) .nil)))
end
/-! ### types of data -/
def tyN : PyData → String
  | .none => "NoneType"
  | .bool _ => "bool"
  | .int _ => "int"
  | .str _ => "str"
  | .list _ => "list"
  | .tuple _ => "tuple"
  | .dict _ => "dict"
theorem Dq.ty {K : PySem.W.Frag} {G H : Hp} (e : Same G H) : ∀ {v : V} {d : PyData}, Dq K G v d → TyX K H v (.type (tyN d))
  | _, _, .non => .base .non
  | _, _, .bl b => .base (.bl b)
  | _, _, .int i => .base (.int i)
  | _, _, .str x => .base (.str x)
  | _, _, .lst h _ => .base (.lst (e _ _ h))
  | _, _, .tup h _ => .base (.tup (e _ _ h))
  | _, _, .dct h _ _ => .base (.dK (e _ _ h))
def isT (T : String) (d : PyData) : Bool := tyN d == T
theorem kit_int : ∀ d : PyData, kitB (tyN d) "int" = some (isT "int" d || isT "bool" d)
  | .none => by decide +kernel
  | .bool _ => (by decide +kernel : kitB "bool" "int" = some true)
  | .int _ => (by decide +kernel : kitB "int" "int" = some true)
  | .str _ => (by decide +kernel : kitB "str" "int" = some false)
  | .list _ => (by decide +kernel : kitB "list" "int" = some false)
  | .tuple _ => (by decide +kernel : kitB "tuple" "int" = some false)
  | .dict _ => (by decide +kernel : kitB "dict" "int" = some false)
theorem kit_bool : ∀ d : PyData, kitB (tyN d) "bool" = some (isT "bool" d)
  | .none => by decide +kernel
  | .bool _ => (by decide +kernel : kitB "bool" "bool" = some true)
  | .int _ => (by decide +kernel : kitB "int" "bool" = some false)
  | .str _ => (by decide +kernel : kitB "str" "bool" = some false)
  | .list _ => (by decide +kernel : kitB "list" "bool" = some false)
  | .tuple _ => (by decide +kernel : kitB "tuple" "bool" = some false)
  | .dict _ => (by decide +kernel : kitB "dict" "bool" = some false)
theorem kit_tuple : ∀ d : PyData, kitB (tyN d) "tuple" = some (isT "tuple" d)
  | .none => by decide +kernel
  | .bool _ => (by decide +kernel : kitB "bool" "tuple" = some false)
  | .int _ => (by decide +kernel : kitB "int" "tuple" = some false)
  | .str _ => (by decide +kernel : kitB "str" "tuple" = some false)
  | .list _ => (by decide +kernel : kitB "list" "tuple" = some false)
  | .tuple _ => (by decide +kernel : kitB "tuple" "tuple" = some true)
  | .dict _ => (by decide +kernel : kitB "dict" "tuple" = some false)
theorem isi_read {K : PySem.W.Frag} {G H : Hp} {v : V} {d : PyData} {T : String} {b : Bool} {Q : VK} (e : Same G H) (h : Dq K G v d) (hk : kitB (tyN d) T = some b) (q : Q (.bl b) H) : rIsi K [v, .ty T] H Q :=
  ⟨v, .ty T, .type (tyN d), .type T, b, rfl, .ty T, h.ty e, kit_ty hk, q⟩
theorem PenAt.some {H : Hp} {p : Addr} {t : Nat} (h : PenAt H p t) : H p ≠ none := by
  obtain ⟨c, cells, x, y, h1, _⟩ := h.ex
  rw [h1]; exact fun z => nomatch z
theorem pen_not {H : Hp} {p l : Addr} {t : Nat} (h : PenAt H p t) (n : H l = none) : l ≠ p := fun z => h.some (by rw [← z]; exact n)
theorem keep_ne {H H1 : Hp} (e : Same H H1) {c : Addr} (h : H c ≠ none) : H1 c ≠ none := by
  cases z : H c with
  | none => exact absurd z h
  | some o => rw [e c o z]; exact fun y => nomatch y
theorem lst_new {G H G1 H1 : Hp} (m : Nw G H G1 H1) {q : Addr} (n : H1 q = none) (o : HO) : Nw G H G1 (upd H1 q o) :=
  ⟨m.gg, m.gh.trans (Same.upd n), m.hh.trans (Same.upd n), m.old⟩
theorem same_but {G H H' : Hp} {p : Addr} (e : Same G H) (n : G p = none) (b : But p H H') : Same G H' := fun a o h => b a o (ne_of_none h n) (e a o h)
theorem ifF {c : Bool} {A B : Prop} (h : c = false) (q : B) : if c = true then A else B := by rw [h]; exact iteF q
theorem ifT {c : Bool} {A B : Prop} (h : c = true) (q : A) : if c = true then A else B := by rw [h]; exact iteT q
theorem some_ne {H : Hp} {b : Addr} {o : HO} (h : H b = some o) : H b ≠ none := by rw [h]; exact fun z => nomatch z
theorem same0 (H : Hp) : Same (fun _ => none) H := fun _ _ h => nomatch h
/-! ### the law's own call: what runs around it is known (no repr is under way) -/
def AtTop (P : Program) (w : World) (K : PySem.W.Frag) (mg : Str → Option Value) (base : Heap) (fa : Addr) (fd : FuncData) (ps : List Str) (sp : Sp) : Prop :=
  ∀ (out : List Env) (s : Shared) (H : Hp) (args : Args) (us : List Value) (vs : List V) (Q : VK) (E : XK), Env0 P w K mg base callerA out s H → BindsTo s fd args (ps.zip us) → Vals vs us → sp vs H Q E → codeAny (model P w) callerA (.call (.ref fa) args) (CR CX0 out P w H s Q E) s
theorem top_ok {P : Program} {w : World} {K : PySem.W.Frag} {mg : Str → Option Value} {base : Heap} {x qual : Str} {st : Stmt} {f : Addr} {fd : FuncData} {N ps : List Str} {k : Nat} {sp : Sp} (F : Fun K x qual st f fd) (S : FnScope N ps (defScope st)) (len : ∀ vs H Q E, sp vs H Q E → vs.length = ps.length) (hr : Room (k + 1) callerA)
    (hbody : ∀ (cdv : Value) (out : List Env) (s : Shared) (H : Hp) (vs : List V) (Q : VK) (E : XK), Room k (callerA.deeper (envOfC qual (defScope st) s.heap.objs.size f cdv)) → sp vs H Q E →
      ∃ t, PSs (cxOf CX0 P w K mg base N qual (defScope st) f cdv callerA out s H E).nox (defBody st) t ∧ t { nx := fun _ H' => Q .non H', rt := Q } (start N vs) H) : AtTop P w K mg base f fd ps sp := by
  obtain ⟨oc, od, kV, doc, pm, an, cdv, ct, osl, rfl, lk, hcd⟩ := F.ex
  intro out s H args us vs Q E e0 hb r hsp
  have hl := len _ _ _ _ hsp
  have KI : K.In s.heap := e0.mod.kin.keeps fun b o e => (e0.bs b o e).1
  have nl : s.heap.NoLimit := e0.mod.nolimit.keeps fun b o e => (e0.bs b o e).1
  have hk : ∀ y ∈ ps.zip us, (defScope st).names.lookup y.1 = some .local ∨ ((defScope st).names.lookup y.1 = some .cell ∧ ((cellsFrom (s.heap.objs.size + 1) (defScope st).names []).lookup y.1).isSome = true) := fun ⟨n, v⟩ hy => by
    rcases S.par n (List.of_mem_zip hy).1 with q | q
    · exact .inl q
    · exact .inr ⟨q, PySem.W.cellsFrom_some _ _ _ (.inl q)⟩
  refine codeAny_call_function hr.depth (KI _ _ lk) rfl S.co S.gen rfl (PySem.W.codeRec_of KI hcd) (hb _ _ _ _ ?_)
  refine wpAny_newFunctionEnv_cells S.kind hk fun env he s1 x => ?_
  subst he; refine ⟨nl.keeps x.toInCall.keep, codeAny_func ?_⟩
  obtain ⟨t, ht, hq⟩ := hbody cdv out s H vs Q E (hr.deeper _) hsp
  have I : Inv (cxOf CX0 P w K mg base N qual (defScope st) f cdv callerA out s H E) [] (start N vs) H s1 := inv_start S hr.hd e0 hl r x
  refine wpAny_mono (ht.nox.run [] s1 (start N vs) H _ I hq) (fun fl s' hs => ?_) fun e s' hs => hs
  have fin : ∀ {σ' : L2.St} {H' : Hp} {v : V} {u : Value}, Inv (cxOf CX0 P w K mg base N qual (defScope st) f cdv callerA out s H E) [] σ' H' s' → RelV v u → Q v H' → CE out P w H s Q u s' := fun {σ' H' v u} J rv q => ⟨v, H', J.os, J.bare, J.base, J.hok, rv, q⟩
  cases fl with
  | ret u => obtain ⟨v, σ', H', J, rv, q⟩ := hs; exact fin J rv q
  | next => obtain ⟨σ', H', J, q⟩ := hs; exact fin (v := V.non) (u := Value.none) J rfl q
  | brk => obtain ⟨_, _, _, q⟩ := hs; exact False.elim q
  | cont => obtain ⟨_, _, _, q⟩ := hs; exact False.elim q
theorem top_call {P : Program} {w : World} {K : PySem.W.Frag} {mg mb : Str → Option Value} {fa a : Addr} {fd : FuncData} {x : Str} {sp : Sp} {s₁ : Shared} {us : List Value} {ns : List Int}
    (KX : K.In s₁.heap) (hn : s₁.heap.Ns mainGlobals mg) (hb : s₁.heap.Ns builtinsNs mb) (hbb : ∀ x : Str, x ≠ "__name__" → mb x = bootBuiltins x) (hlim : s₁.heap.NoLimit) (hg : s₁.gens = #[])
    (ha : s₁.heap.get? a = some { cls := .type "list", data := .seq us.toArray }) (hi : IntsAre us ns) (hl : ns.length ≤ sizeLine)
    (F : ∀ base : Heap, K.In base → base.Ns mainGlobals mg → AtTop P w K mg base fa fd [x] sp) (hbind : ∀ (s : Shared) (u : Value), BindsTo s fd ⟨[u], []⟩ [(x, u)])
    (hsp : ∀ H : Hp, Only H → SqL K H a (ns.map V.int) → sp [.ref a] H (fun v _ => v = .bl true) fun _ _ _ => False) :
    codeAny (model P w) callerA (.call (.ref fa) ⟨[.ref a], []⟩) (fun r s' => r = .ok (.ret (.bool true)) ∧ OldK s₁.heap s'.heap ∧ s'.os = s₁.os ∧ AllBare s'.gens) s₁ := by
  have rv := vals_ints hi
  have lenV := hi.length
  have main : ∀ H : Hp, Only H → SqL K H a (ns.map V.int) → HOk P w H s₁.heap → (∀ b, H b ≠ none → b = a) → (H a ≠ none → K.lookup a = none) →
      codeAny (model P w) callerA (.call (.ref fa) ⟨[.ref a], []⟩) (fun r s' => r = .ok (.ret (.bool true)) ∧ OldK s₁.heap s'.heap ∧ s'.os = s₁.os ∧ AllBare s'.gens) s₁ := by
    intro H hO hS hok hA hK
    have free : ∀ b : Addr, b ≠ a → H b = none := fun b n => by
      cases q : H b with
      | none => rfl
      | some u => exact absurd (hA b (by rw [q]; simp)) n
    have noA : ∀ {b : Addr} {o : Obj} {es : Array DictEntry} {ep : Nat}, s₁.heap.get? b = some o → o.data = .dict es ep → H b = none := fun {b o es ep} e d => free b fun z => by
      rw [z, ha] at e; cases e
      exact absurd (show Data.seq us.toArray _ = Data.dict es ep from d) (fun z => nomatch z)
    have nsK : ∀ {b : Addr} {m : Str → Option Value}, s₁.heap.Ns b m → (hidT s₁.heap H).Ns b m := fun {b m} ⟨o, es, ep, e, d, r⟩ => ⟨o, es, ep, hidT_get e (noA e d), d, r⟩
    have hKb : K.In (hidT s₁.heap H) := fun b o e => hidT_get (KX b o e) (by
      cases q : H b with
      | none => rfl
      | some u =>
        have z : b = a := hA b (by rw [q]; simp)
        rw [z] at e q
        rw [hK (by rw [q]; simp)] at e; cases e)
    have hM : Mod K mg (hidT s₁.heap H) := ⟨hKb, nsK hn, ⟨mb, nsK hb, hbb⟩, let ⟨mc, h1, h2⟩ := hlim; ⟨mc, nsK h1, h2⟩⟩
    have e0 : Env0 P w K mg (hidT s₁.heap H) callerA [] s₁ H := ⟨rfl, hM, fun b o e => of_hidT e, Nat.le_of_eq (hidT_size _ _), trivial, fun b hb => (nomatch (show b ∈ ([] : List Addr) from hb)), hok, .of_eq hg⟩
    refine codeAny_mono (F _ hKb (nsK hn) [] s₁ H ⟨[.ref a], []⟩ [.ref a] [.ref a] _ _ e0 (hbind s₁ (.ref a)) (.cons rfl .nil) (hsp H hO hS)) fun r s' h => ?_
    cases r with
    | error e => exact False.elim h
    | ok fl =>
      cases fl with
      | next => exact False.elim h
      | brk => exact False.elim h
      | cont => exact False.elim h
      | ret u =>
        obtain ⟨v, H', os, bare, un, hok', r', q⟩ := h
        obtain rfl : v = .bl true := q
        obtain rfl : u = Value.bool true := r'
        refine ⟨rfl, OldK.of_keep fun b o e => ?_, os, bare⟩
        cases q : H b with
        | none => exact un.keep b o e q (fun z => nomatch (show b ∈ ([] : List Addr) from z)) (by simp)
        | some u =>
          rcases hO b with z | ⟨ob, xs, z⟩
          · rw [q] at z; cases z
          · obtain ⟨e1, _⟩ := hok b _ z
            obtain ⟨e2, _⟩ := hok' b _ (un.frzs b ob _ z)
            rw [e] at e1; cases e1; exact e2
  cases hk : K.lookup a with
  | some o =>
    have e := KX a o hk
    rw [ha] at e; cases e
    exact main (fun _ => none) (fun _ => .inl rfl) (.inr ⟨_, us.toArray, _, hk, rfl, rfl, rfl, by rw [List.size_toArray, lenV]; exact hl, by simpa using rv⟩) (fun b u z => nomatch (show (none : Option HO) = some u from z)) (fun b z => absurd rfl z) fun z => absurd rfl z
  | none =>
    refine main (fun b => if b = a then some (.frz { cls := .type "list", data := .seq us.toArray } (.lst (ns.map V.int))) else none) (fun b => ?_) (.inl (.inr ⟨{ cls := .type "list", data := .seq us.toArray }, if_pos rfl⟩)) (fun b u z => ?_) (fun b z => ?_) fun _ => hk
    · by_cases hb : b = a
      · exact .inr ⟨_, _, if_pos hb⟩
      · exact .inl (if_neg hb)
    · by_cases hb : b = a
      · have z' := (if_pos hb).symm.trans z
        cases z'; subst hb
        exact ⟨ha, by rw [List.length_map]; exact hl, us, _, rv, ha⟩
      · exact nomatch ((if_neg hb).symm.trans z)
    · by_cases hb : b = a
      · exact hb
      · exact absurd (if_neg hb) z
theorem walk_top {l : PySem.W.OpenLaw} {n : Nat} {q : Program} {loose : List Str} {XP : (Str → Option Value) → Heap → Prop} {YP : World → Heap → Prop} {d : DefRec} {K : Params → PySem.W.Frag} {sp : World → Sp} {x : Str}
    (hn : l.most = some n) (hn2 : n ≤ sizeLine) (hdf : d.params.defaults = []) (hY : ∀ (w : World) (h : Heap), YP w h → (K w.params).In h)
    (F : ∀ (w : World) (mg : Str → Option Value) (fa : Addr) (h : Heap), (K w.params).In h → h.Ns mainGlobals mg → mg d.name = some (.ref fa) →
      ∃ fd : FuncData, (∀ (s : Shared) (u : Value), BindsTo s fd ⟨[u], []⟩ [(x, u)]) ∧ ∀ base : Heap, (K w.params).In base → base.Ns mainGlobals mg → AtTop l.prog w (K w.params) mg base fa fd [x] (sp w))
    (hsp : ∀ (w : World) (H : Hp) (a : Addr) (ns : List Int), ns.length ≤ n → Only H → SqL (K w.params) H a (ns.map V.int) → sp w [.ref a] H (fun v _ => v = .bl true) fun _ _ _ => False) :
    PySem.W.WalkO q loose XP YP l.row.toRowW d [] (fun f vs => PySem.call f vs) := by
  refine Att.attach_call hn hdf fun w s₀ s₁ mg mb fa o pm cd doc a us ns G Y ho hd hcd hmg hobj hints hlen hg => ?_
  obtain ⟨fd, hb, hF⟩ := F w mg fa _ (hY w _ Y) G.T.g hmg
  exact top_call (hY w _ Y) G.T.g G.T.b G.T.builtins G.T.nolimit hg hobj hints (Nat.le_trans hlen hn2) hF hb fun H hO hS => hsp w H a ns hlen hO hS
end My

namespace My
open PySem PySem.Spec PyProof.Rows L2
/-! ### texts -/
abbrev tl (x : Str) : List Nat := x.cps.toList
theorem len_tl (x : Str) : x.length = (tl x).length := by simp [tl, Str.length]
theorem tl_ap (x y : Str) : tl (x ++ y) = tl x ++ tl y := by
  show (x ++ y).cps.toList = _
  rw [Str.cps_append, Array.toList_append]
def ofL (l : List Nat) : Str := ⟨l.toArray⟩
theorem tl_ofL (l : List Nat) : tl (ofL l) = l := rfl
theorem ofL_tl (x : Str) : ofL (tl x) = x := Str.ext' (by simp [ofL, tl])
/-- x * k, k at least 1 -/
def rMulS : R2 := fun x y H Q => ∃ (z : Str) (k : Nat), x = .str z ∧ y = .int k ∧ 1 ≤ k ∧ k ≤ 1000 ∧ z.length ≤ 1000 ∧ Q (.str (ofL (List.replicate k (tl z)).flatten)) H
theorem fold_cat : ∀ (k : Nat) (a b : Array Nat), ((List.replicate k b).foldl (· ++ ·) a).toList = a.toList ++ (List.replicate k b.toList).flatten
  | 0, a, b => by simp
  | k + 1, a, b => by
    rw [List.replicate_succ, List.foldl_cons, fold_cat k, List.replicate_succ, List.flatten_cons, Array.toList_append, List.append_assoc]
theorem op_mulS {X : Cx} : OpR X (binaryOp .Mult) rMulS := by
  intro pins s σ H x y v u Q I rx ry h
  obtain ⟨z, k, rfl, rfl, k1, k2, hz, q⟩ := h
  obtain ⟨t, rfl⟩ := rx
  obtain ⟨t', rfl⟩ := ry
  have big : ((z.length : Int)) ≤ (2 ^ 63 - 1) / (k : Int) := by
    rw [Int.le_ediv_iff_mul_le (by omega)]
    have : (z.length : Int) * (k : Int) ≤ 1000 * 1000 := Int.mul_le_mul (by omega) (by omega) (by omega) (by decide)
    omega
  have small : z.length * k ≤ 1000 * 1000 := Nat.mul_le_mul hz k2
  refine PySem.P.mul_str (by
    have h1 : ¬ ((k : Int) < -(2 ^ 63 : Int)) := by omega
    have h2 : ¬ ((k : Int) ≥ 2 ^ 63) := by omega
    rw [decide_eq_false h1, decide_eq_false h2]; rfl) (fun _ _ => by omega) (fun _ _ => ?_) ?_
  · rw [Int.toNat_natCast]
    refine decide_eq_false ?_
    have := line63
    show ¬ (z.length * k > _)
    have e : sizeLine = 16777216 := sizeLine_eq
    omega
  · rw [if_neg (by omega)]
    by_cases c : ((k : Int) == 1 || z.length == 0) = true
    · rw [if_pos c]
      have e : ofL (List.replicate k (tl z)).flatten = z := by
        rcases (Bool.or_eq_true _ _).mp c with c | c
        · have k1 : k = 1 := by have := (beq_iff_eq).mp c; omega
          subst k1
          show ofL (tl z ++ []) = z
          rw [List.append_nil, ofL_tl]
        · have z0 : tl z = [] := by
            have := (beq_iff_eq).mp c
            rw [len_tl] at this
            exact List.eq_nil_of_length_eq_zero this
          have : (List.replicate k (tl z)).flatten = [] := by rw [z0]; simp
          rw [this, ← z0, ofL_tl]
      rw [e] at q
      exact ⟨.str z, H, I, ⟨t, rfl⟩, q⟩
    · rw [if_neg c, Int.toNat_natCast]
      have e : (⟨(List.replicate k z.cps).foldl (· ++ ·) #[]⟩ : Str) = ofL (List.replicate k (tl z)).flatten := Str.ext' (Array.toList_inj.mp (by rw [fold_cat]; simp [ofL, tl]))
      rw [e]
      refine ⟨?_, .str _, H, I.tok _, ⟨_, rfl⟩, q⟩
      show (ofL (List.replicate k (tl z)).flatten).length ≤ sizeLine
      rw [len_tl, tl_ofL, List.length_flatten, List.map_replicate, List.sum_replicate_nat, ← len_tl, Nat.mul_comm, sizeLine_eq]
      omega
/-! ### letters -/
def Lets (l : List Nat) : Prop := ∀ c ∈ l, 97 ≤ c ∧ c ≤ 122
structure NameOk (x : Str) : Prop where
  lets : Lets (tl x)
  lo : 1 ≤ x.length
  hi : x.length ≤ 8
def sgS : Str := "abcdefghijklmnopqrstuvwxyz"
theorem sg_tl : tl sgS = (List.range 26).map (97 + ·) := by decide +kernel
theorem sg_len : sgS.length = 26 := by rw [len_tl, sg_tl]; decide
theorem sg_at {i : Int} (h0 : 0 ≤ i) (h1 : i < 26) : atI sgS.cps.toList i = some (97 + i.toNat) := by
  obtain ⟨j, rfl⟩ : ∃ j : Nat, i = (j : Int) := ⟨i.toNat, by omega⟩
  refine atI_nat ?_
  show (tl sgS)[j]? = _
  rw [sg_tl, List.getElem?_map, List.getElem?_range (by omega)]
  simp
def chr (i : Int) : Str := ⟨#[97 + i.toNat]⟩
theorem tl_chr (i : Int) : tl (chr i) = [97 + i.toNat] := rfl
theorem chr_len (i : Int) : (chr i).length = 1 := rfl
theorem lets_chr {i : Int} (h0 : 0 ≤ i) (h1 : i < 26) : Lets (tl (chr i)) := fun c hc => by
  rw [tl_chr] at hc
  have := List.mem_singleton.mp hc
  omega
theorem flat1 (m c : Nat) : (List.replicate m [c]).flatten = List.replicate m c := by
  induction m with
  | zero => rfl
  | succ n ih => rw [List.replicate_succ, List.flatten_cons, ih, List.replicate_succ]; rfl
def repC (m : Nat) (i : Int) : Str := ofL (List.replicate m (tl (chr i))).flatten
theorem tl_repC (m : Nat) (i : Int) : tl (repC m i) = List.replicate m (97 + i.toNat) := by
  show (List.replicate m [97 + i.toNat]).flatten = _
  exact flat1 m _
theorem repC_ok {m : Nat} {i : Int} (h0 : 0 ≤ i) (h1 : i < 26) (m1 : 1 ≤ m) (m2 : m ≤ 8) : NameOk (repC m i) := by
  refine ⟨fun c hc => ?_, ?_, ?_⟩
  · rw [tl_repC] at hc
    have := (List.mem_replicate.mp hc).2
    omega
  · rw [len_tl, tl_repC, List.length_replicate]; exact m1
  · rw [len_tl, tl_repC, List.length_replicate]; exact m2
theorem repC_inj {m n : Nat} {i j : Int} (m1 : 1 ≤ m) (h0 : 0 ≤ i) (h1 : 0 ≤ j) (h : repC m i = repC n j) : m = n ∧ i = j := by
  have e : List.replicate m (97 + i.toNat) = List.replicate n (97 + j.toNat) := by rw [← tl_repC, ← tl_repC, h]
  have l := congrArg List.length e
  rw [List.length_replicate, List.length_replicate] at l
  subst l
  refine ⟨rfl, ?_⟩
  have z : (97 + i.toNat) ∈ List.replicate m (97 + j.toNat) := by rw [← e]; exact List.mem_replicate.mpr ⟨by omega, rfl⟩
  have := (List.mem_replicate.mp z).2
  omega
def mid (x : Str) (a : Nat) (i : Int) : Str := cutS x none (some (a : Int)) ++ chr i ++ cutS x (some (a : Int)) none
theorem tl_cut_to (x : Str) {a : Nat} (h : a ≤ x.length) : tl (cutS x none (some (a : Int))) = (tl x).take a := by
  show ((x.cps.toList.drop 0).take (HT.sIx x.length x.length (some (a : Int)) - 0)) = _
  rw [sIx_nat, Nat.min_eq_left h]; rfl
theorem tl_cut_from (x : Str) {a : Nat} (h : a ≤ x.length) : tl (cutS x (some (a : Int)) none) = (tl x).drop a := by
  show ((x.cps.toList.drop (HT.sIx x.length 0 (some (a : Int)))).take (x.length - HT.sIx x.length 0 (some (a : Int)))) = _
  rw [sIx_nat, Nat.min_eq_left h]
  refine List.take_of_length_le ?_
  rw [List.length_drop, len_tl]
  exact Nat.le_refl _
theorem tl_mid (x : Str) {a : Nat} (i : Int) (h : a ≤ x.length) : tl (mid x a i) = (tl x).take a ++ [97 + i.toNat] ++ (tl x).drop a := by
  unfold mid
  rw [tl_ap, tl_ap, tl_cut_to x h, tl_cut_from x h, tl_chr]
theorem mid_ok {x : Str} {a : Nat} {i : Int} (h : a ≤ x.length) (hx : Lets (tl x)) (hl : x.length ≤ 7) (h0 : 0 ≤ i) (h1 : i < 26) : NameOk (mid x a i) := by
  have hl' := len_tl x
  have e : (mid x a i).length = x.length + 1 := by
    rw [len_tl, tl_mid x i h, List.length_append, List.length_append, List.length_take, List.length_drop, ← hl']
    simp only [List.length_cons, List.length_nil]
    omega
  refine ⟨fun c hc => ?_, by omega, by omega⟩
  rw [tl_mid x i h] at hc
  rcases List.mem_append.mp hc with hc | hc
  · rcases List.mem_append.mp hc with hc | hc
    · exact hx c (List.mem_of_mem_take hc)
    · have := List.mem_singleton.mp hc; omega
  · exact hx c (List.mem_of_mem_drop hc)
theorem mid_inj {x : Str} {a : Nat} {i j : Int} (h : a ≤ x.length) (h0 : 0 ≤ i) (h1 : 0 ≤ j) (e : mid x a i = mid x a j) : i = j := by
  have z : (tl x).take a ++ [97 + i.toNat] ++ (tl x).drop a = (tl x).take a ++ [97 + j.toNat] ++ (tl x).drop a := by rw [← tl_mid x i h, ← tl_mid x j h, e]
  have y := List.append_cancel_left (List.append_cancel_right z)
  injection y with y _
  omega
theorem nodup_of {α : Type} {f : Nat → α} {m : Nat} (h : ∀ i j, i < j → j < m → f i ≠ f j) : ((List.range m).map f).Nodup :=
  List.pairwise_map.mpr (List.Pairwise.imp_of_mem (R := (· < ·)) (fun {i j} _ hj hlt => h i j hlt (List.mem_range.mp hj)) List.pairwise_lt_range)
def nm0 (f a : Int) (k : Nat) : Str := repC (1 + ((a + 3 * k) % 8).toNat) ((f + 5 * k) % 26)
def nm1 (f a : Int) (k : Nat) : Str := repC (1 + ((a + k) % 8).toNat) f
def nm2 (x : Str) (f : Int) (a : Nat) (k : Nat) : Str := mid x a ((f + 5 * k) % 26)
structure NamesOk (ns : List Str) (m : Nat) : Prop where
  len : ns.length = m
  nod : ns.Nodup
  ok : ∀ x ∈ ns, NameOk x
theorem names_of {f : Nat → Str} {m : Nat} (h : ∀ i j, i < j → j < m → f i ≠ f j) (ok : ∀ i, i < m → NameOk (f i)) : NamesOk ((List.range m).map f) m :=
  ⟨by simp, nodup_of h, fun x hx => by
    obtain ⟨i, hi, rfl⟩ := List.mem_map.mp hx
    exact ok i (List.mem_range.mp hi)⟩
theorem md {x k : Int} (h : 0 < k) : 0 ≤ x % k ∧ x % k < k := ⟨Int.emod_nonneg _ (by omega), Int.emod_lt_of_pos _ h⟩
theorem names0 {f a : Int} {m : Nat} (hm : m ≤ 8) : NamesOk ((List.range m).map (nm0 f a)) m :=
  names_of (fun i j h1 h2 e => by
    have r1 := md (x := f + 5 * i) (k := 26) (by decide)
    have r2 := md (x := f + 5 * j) (k := 26) (by decide)
    have := (repC_inj (by omega) r1.1 r2.1 e).2
    omega) fun i _ => by
    have r1 := md (x := f + 5 * i) (k := 26) (by decide)
    have r2 := md (x := a + 3 * i) (k := 8) (by decide)
    exact repC_ok r1.1 r1.2 (by omega) (by omega)
theorem names1 {f a : Int} {m : Nat} (hm : m ≤ 8) (f0 : 0 ≤ f) (f1 : f < 26) : NamesOk ((List.range m).map (nm1 f a)) m :=
  names_of (fun i j h1 h2 e => by
    have r1 := md (x := a + i) (k := 8) (by decide)
    have r2 := md (x := a + j) (k := 8) (by decide)
    have := (repC_inj (by omega) f0 f0 e).1
    omega) fun i _ => by
    have r2 := md (x := a + i) (k := 8) (by decide)
    exact repC_ok f0 f1 (by omega) (by omega)
theorem names2 {x : Str} {f : Int} {a m : Nat} (hm : m ≤ 8) (h : a ≤ x.length) (hx : Lets (tl x)) (hl : x.length ≤ 7) : NamesOk ((List.range m).map (nm2 x f a)) m :=
  names_of (fun i j h1 h2 e => by
    have r1 := md (x := f + 5 * i) (k := 26) (by decide)
    have r2 := md (x := f + 5 * j) (k := 26) (by decide)
    have := mid_inj h r1.1 r2.1 e
    omega) fun i _ => by
    have r1 := md (x := f + 5 * i) (k := 26) (by decide)
    exact mid_ok h hx hl r1.1 r1.2
/-! ### joined -/
theorem join_nil (ys : List Str) : tl (Txt.join "" ys) = (ys.map tl).flatten := by
  show tl (Builtin.Str.glued (Str.ofString "") ys) = _
  rw [StrLaws.glued_eq_join]
  have e0 : tl (Str.ofString "") = [] := by decide +kernel
  have key : ∀ zs : List Str, tl (Str.join (Str.ofString "") zs) = (zs.map tl).flatten := by
    intro zs
    induction zs with
    | nil => rfl
    | cons x r ih =>
      cases r with
      | nil => show tl x = _; simp
      | cons y r =>
        show tl (x ++ Str.ofString "" ++ Str.join (Str.ofString "") (y :: r)) = _
        rw [tl_ap, tl_ap, e0, List.append_nil, ih]; rfl
  exact key ys
theorem join_chrs {cs : List Int} (h : ∀ c ∈ cs, 0 ≤ c ∧ c < 26) : Lets (tl (Txt.join "" (cs.map chr))) ∧ (Txt.join "" (cs.map chr)).length = cs.length := by
  have e : tl (Txt.join "" (cs.map chr)) = cs.map fun c => 97 + c.toNat := by
    rw [join_nil, List.map_map]
    clear h
    induction cs with
    | nil => rfl
    | cons c r ih => rw [List.map_cons, List.flatten_cons, ih]; rfl
  refine ⟨fun c hc => ?_, by rw [len_tl, e, List.length_map]⟩
  rw [e] at hc
  obtain ⟨d, hd, rfl⟩ := List.mem_map.mp hc
  have := h d hd
  omega
end My

namespace My
open PySem PySem.Spec PyProof.Rows L2
abbrev sNames : Stmt := topS 18
def spNames : Sp := fun vs H Q _ => ∃ (p pc : Addr) (m t : Nat), vs = [.ref p, .int m] ∧ m ≤ 8 ∧ PenC H p pc t ∧ t + 20 < 2 ^ 29 ∧
  ∀ (l : Addr) (ns : List Str) (H' : Hp), NamesOk ns m → H l = none → But p H H' → PenC H' p pc (t + 11) → H' l = some (.lst (ns.map V.str)) → Q (.ref l) H'
structure TxN (mg : Str → Option Value) : Prop where
  len : mg "len" = none
  range : mg "range" = none
section
variable {P : Program} {w : World} {K : PySem.W.Frag} {mg : Str → Option Value} {base : Heap}
theorem scNames : FnScope ["pen", "many", "signs", "stem", "at", "first", "way", "k"] ["pen", "many"] (defScope sNames) := ⟨rfl, rfl, rfl, by decide +kernel, rfl, by decide +kernel, by decide +kernel⟩
theorem small_nat {k : Nat} (h : k ≤ 1000) : (k : Int).natAbs < 2 ^ 8000 := Nat.lt_of_le_of_lt (show (k : Int).natAbs ≤ 1000 by omega) (by decide)
theorem small_int {k : Int} (h0 : 0 ≤ k) (h : k ≤ 1000) : k.natAbs < 2 ^ 8000 := Nat.lt_of_le_of_lt (show k.natAbs ≤ 1000 by omega) (by decide)
theorem map_snoc (f : Nat → Str) (i : Nat) : (((List.range i).map f).map V.str) ++ [V.str (f i)] = ((List.range (i + 1)).map f).map V.str := by
  rw [List.range_succ, List.map_append, List.map_append]; rfl
theorem ok_names {f fT : Addr} {fd fdT : FuncData} (F : Fun K "_law_names" "_law_names" sNames f fd) (T : TxN mg)
    (FT : Fun K "_law_take" "_law_take" sTake fT fdT) (GT : FnOk P w K mg base CX0 2 fT fdT ["pen", "many"] spTakeC) (bT : Binds K fdT ["pen", "many"] []) (gT : mg "_law_take" = some (.ref fT)) :
    FnOk P w K mg base CX0 3 f fd ["pen", "many"] spNames := by
  refine F.ok scNames (fun vs H Q E h => ?_) (fun cdv A outer s H vs Q E hr h => ?_)
  · obtain ⟨p, pc, m, t, rfl, _⟩ := h
    rfl
  · obtain ⟨p, pc, m, t, rfl, hm, PC, ht, k⟩ := h
    have hr2 := hr
    refine ⟨_, (pss_cons (ps_set (i := 2) scNames.nd rfl (Or.inr rfl) pe_str)
      (pss_cons (ps_set (i := 3) scNames.nd rfl (Or.inr rfl) (pe_bm PySem.F.plainAttrs_str PySem.F.slot_str_join PySem.F.type_str_join mt_join pe_str (pa_cons (pe_lc (own := [("k", 7)]) (g := gName 7) (tt := tYes) rfl scNames.nd (pi_range1 (by rfl) T.range (pa_cons (pe_call GT hr2 (by rfl) gT FT.kp bT .nil pass0 (pa_cons (pv 0) (pa_cons pe_int pa_nil))) pa_nil)) (blkOk_by (N := ["pen", "many", "signs", "stem", "at", "first", "way", "k"]) (sc := defScope sNames) (by decide +kernel)) (fun _ _ _ _ _ => pg_name (i := 7) scNames.nd rfl (Or.inl rfl)) (fun _ _ _ _ _ => pts_nil) (fun _ _ _ _ _ => (pe_ix ix_str (pv 2) (pe_call GT hr2 (by rfl) gT FT.kp bT .nil pass0 (pa_cons (pv 0) (pa_cons pe_int pa_nil))) (fun _ _ => rfl)))) pa_nil)))
      (pss_cons (ps_set (i := 4) scNames.nd rfl (Or.inr rfl) (pe_call GT hr2 (by rfl) gT FT.kp bT .nil pass0 (pa_cons (pv 0) (pa_cons (pe_op op_add (pe_callB call_len_str (by rfl) T.len PySem.boot_len (pa_cons (pv 3) pa_nil)) pe_int) pa_nil))))
      (pss_cons (ps_set (i := 5) scNames.nd rfl (Or.inr rfl) (pe_call GT hr2 (by rfl) gT FT.kp bT .nil pass0 (pa_cons (pv 0) (pa_cons pe_int pa_nil))))
      (pss_cons (ps_set (i := 6) scNames.nd rfl (Or.inl rfl) (pe_call GT hr2 (by rfl) gT FT.kp bT .nil pass0 (pa_cons (pv 0) (pa_cons pe_int pa_nil))))
      (pss_cons (ps_if (pt_cmpR op_eq (pv 6) pe_int (nomark _)) (pss_one (ps_ret (pe_lc (own := [("k", 7)]) (g := gName 7) (tt := tYes) rfl scNames.nd (pi_range1 (by rfl) T.range (pa_cons (pv 1) pa_nil)) (blkOk_by (N := ["pen", "many", "signs", "stem", "at", "first", "way", "k"]) (sc := defScope sNames) (by decide +kernel)) (fun _ _ _ _ _ => pg_name (i := 7) scNames.nd rfl (Or.inl rfl)) (fun _ _ _ _ _ => pts_nil) (fun _ _ _ _ _ => (pe_op op_mulS (pe_ix ix_str (pv 2) (pe_op op_mod (pe_op op_add (pv 5) (pe_op op_mul pe_int (pv 7))) pe_int) (fun _ _ => rfl)) (pe_op op_add pe_int (pe_op op_mod (pe_op op_add (pv 4) (pe_op op_mul pe_int (pv 7))) pe_int))))))) pss_nil)
      (C8.pss_cut (ps_if (PW.pt (pw_and (pt_cmpR op_eq (pv 6) pe_int (nomark _)) (pw_and1 (pt_cmpR op_lt (pv 1) pe_int (nomark _))))) (pss_one (ps_ret (pe_lc (own := [("k", 7)]) (g := gName 7) (tt := tYes) rfl scNames.nd (pi_range1 (by rfl) T.range (pa_cons (pv 1) pa_nil)) (blkOk_by (N := ["pen", "many", "signs", "stem", "at", "first", "way", "k"]) (sc := defScope sNames) (by decide +kernel)) (fun _ _ _ _ _ => pg_name (i := 7) scNames.nd rfl (Or.inl rfl)) (fun _ _ _ _ _ => pts_nil) (fun _ _ _ _ _ => (pe_op op_mulS (pe_ix ix_str (pv 2) (pv 5) (fun _ _ => rfl)) (pe_op op_add pe_int (pe_op op_mod (pe_op op_add (pv 4) (pv 7)) pe_int))))))) pss_nil)
      (pss_one (ps_ret (pe_lc (own := [("k", 7)]) (g := gName 7) (tt := tYes) rfl scNames.nd (pi_range1 (by rfl) T.range (pa_cons (pv 1) pa_nil)) (blkOk_by (N := ["pen", "many", "signs", "stem", "at", "first", "way", "k"]) (sc := defScope sNames) (by decide +kernel)) (fun _ _ _ _ _ => pg_name (i := 7) scNames.nd rfl (Or.inl rfl)) (fun _ _ _ _ _ => pts_nil) (fun _ _ _ _ _ => (pe_op op_add_str (pe_op op_add_str (pe_slice sl_str (pv 3) po_none (po_some (pv 4))) (pe_ix ix_str (pv 2) (pe_op op_mod (pe_op op_add (pv 5) (pe_op op_mul pe_int (pv 7))) pe_int) (fun _ _ => rfl))) (pe_slice sl_str (pv 3) (po_some (pv 4)) po_none))))))))))))), ?_⟩
    refine ⟨rfl, _, rfl, p, pc, 8, t, rfl, by decide, by decide, PC, by omega, fun m1 H1 m10 m11 b1' P1 => ?_⟩
    obtain ⟨c, rfl⟩ : ∃ c : Nat, m1 = (c : Int) := ⟨m1.toNat, by omega⟩
    refine ⟨_, rfl, by omega, by omega, fun D nD => ?_⟩
    have Dp : D ≠ p := pen_not P1.any nD
    have Dc : D ≠ pc := fun z => P1.at_c (by rw [← z]; exact nD)
    rw [Int.toNat_natCast]
    refine lc_it (walk_range (lo := 0) (n := c)) (fun i H2 => PenC H2 p pc (t + 1 + i) ∧ But p H1 H2 ∧ i ≤ c ∧ ∃ l : List Int, l.length = i ∧ (∀ x ∈ l, 0 ≤ x ∧ x < 26) ∧ H2 D = some (.lst ((l.map chr).map V.str))) ⟨P1.same (Same.upd nD) (by omega), But.of (Same.upd nD), Nat.zero_le _, [], rfl, (fun x hx => nomatch hx), upd_same⟩ (fun _ _ _ _ => trivial) ?_ ?_
    · rintro i x H2 H3 hi' ⟨P2, b2', _, l, hl, hd, hD⟩ ⟨rfl, rfl⟩
      refine ⟨rfl, ?_⟩
      refine ⟨_, rfl, _, rfl, p, pc, 26, _, rfl, by decide, by decide, P2, by omega, fun z H4 z0 z1 b4' P4 => ?_⟩
      have hD4 := b4' _ _ Dp hD
      refine ⟨sgS, z, _, rfl, rfl, by rw [sg_len]; decide, sg_at z0 z1, ?_⟩
      refine ⟨_, hD4, by rw [List.length_map, List.length_map, sizeLine_eq]; omega, P4.upd Dp Dc (by omega) _, ?_, by omega, l ++ [z], by rw [List.length_append, hl]; rfl, ?_, by rw [upd_same, List.map_append, List.map_append]; rfl⟩
      · intro c' o hn hc'
        rw [upd_ne (ne_of_none hc' nD)]
        exact b4' c' o hn (b2' c' o hn hc')
      · intro x hx
        rcases List.mem_append.mp hx with hx | hx
        · exact hd x hx
        · rw [List.mem_singleton.mp hx]; exact ⟨z0, z1⟩
    · rintro H2 ⟨P2, b2', _, l, hl, hd, hD⟩
      obtain ⟨j1, j2⟩ := join_chrs hd
      refine ⟨"", D, l.map chr, rfl, rfl, .inl (SqL.of hD), ?_, ?_⟩
      · have e1 : ((l.map chr).map (·.length)).sum = l.length := by
          rw [List.map_map]
          clear hD hd hl j1 j2
          induction l with
          | nil => rfl
          | cons x r ih => rw [List.map_cons, List.sum_cons, ih]; show 1 + r.length = _; rw [List.length_cons]; omega
        have e2 : (("" : String) : Str).length = 0 := by decide
        rw [e1, e2]; omega
      generalize Txt.join "" (l.map chr) = st at j1 j2
      refine ⟨_, rfl, _, rfl, st, rfl, by rw [sizeLine_eq]; omega, _, _, rfl, rfl, p, pc, _, _, rfl, by omega, small_int (by omega) (by omega), P2, by omega, fun a H3 a0 a1 b3' P3 => ?_⟩
      obtain ⟨a, rfl⟩ : ∃ c : Nat, a = (c : Int) := ⟨a.toNat, by omega⟩
      refine ⟨_, rfl, p, pc, 26, _, rfl, by decide, by decide, P3, by omega, fun f H4 f0 f1 b4' P4 => ?_⟩
      refine ⟨_, rfl, p, pc, 3, _, rfl, by decide, by decide, P4, by omega, fun wy H5 w0 w1 b5' P5 => ?_⟩
      have bt : But p H H5 := (((b1'.trans b2').trans b3').trans b4').trans b5'
      have P5 : PenC H5 p pc (t + 11) := P5.same (Same.refl _) (by omega)
      have free : ∀ q : Addr, H5 q = none → H q = none := fun q nq => by
        cases z : H q with
        | none => rfl
        | some o =>
          by_cases hq : q = p
          · subst hq; exact absurd nq P5.any.some
          · rw [bt q o hq z] at nq; cases nq
      have fin : ∀ (g : Nat → Str) (q : Addr) (H6 : Hp), NamesOk ((List.range m).map g) m → H5 q = none → Same H5 H6 → H6 q = some (.lst (((List.range m).map g).map V.str)) → Q (.ref q) H6 := fun g q H6 ok nq s6 h6 =>
        k q _ H6 ok (free q nq) (bt.trans (But.of s6)) (P5.same s6 (Nat.le_refl _)) h6
      have lps : ∀ (g : Nat → Str) (D : Addr) (i : Nat) (H6 : Hp), H5 D = none → i < m → Same H5 H6 → H6 D = some (.lst (((List.range i).map g).map V.str)) →
          ∃ acc, H6 D = some (.lst acc) ∧ acc.length < sizeLine ∧ Same H5 (upd H6 D (.lst (acc ++ [V.str (g i)]))) ∧ (upd H6 D (.lst (acc ++ [V.str (g i)]))) D = some (.lst (((List.range (i + 1)).map g).map V.str)) := fun g D i H6 nD hi s6 hD => by
        refine ⟨_, hD, by rw [List.length_map, List.length_map, List.length_range, sizeLine_eq]; omega, fun b o hb => ?_, by rw [upd_same, map_snoc]⟩
        rw [upd_ne (ne_of_none hb nD)]
        exact s6 b o hb
      refine ⟨_, rfl, rfl, _, rfl, ite2 (fun _ => ?_) (fun _ => ?_)⟩
      · -- way 0
        refine ⟨_, rfl, _, rfl, by omega, by omega, fun D2 nD2 => ?_⟩
        rw [Int.toNat_natCast]
        refine lc_it (walk_range (lo := 0) (n := m)) (fun i H6 => Same H5 H6 ∧ H6 D2 = some (.lst (((List.range i).map (nm0 f a)).map V.str))) ⟨Same.upd nD2, upd_same⟩ (fun _ _ _ _ => trivial) ?_ (fun H6 ⟨s6, h6⟩ => fin _ D2 H6 (names0 hm) nD2 s6 h6)
        rintro i x H6 H7 hi' ⟨s6, hD6⟩ ⟨rfl, hx⟩
        replace hx : x = V.int i := hx.trans (by show V.int (0 + (i : Int)) = _; rw [Int.zero_add])
        subst hx
        refine ⟨rfl, ?_⟩
        have r1 := md (x := f + 5 * i) (k := 26) (by decide)
        have r2 := md (x := (a : Int) + 3 * i) (k := 8) (by decide)
        refine ⟨_, rfl, _, rfl, _, rfl, _, _, rfl, rfl, .inl ⟨by omega, by omega⟩, _, _, rfl, rfl, _, _, rfl, rfl, (by show (0 : Int) < 26; decide), sgS, _, _, rfl, rfl, by rw [sg_len]; decide, sg_at r1.1 r1.2, ?_⟩
        refine ⟨_, rfl, _, rfl, _, _, rfl, rfl, .inl ⟨by omega, by omega⟩, _, _, rfl, rfl, _, _, rfl, rfl, (by show (0 : Int) < 8; decide), _, _, rfl, rfl, chr ((f + 5 * i) % 26), (1 + (((a : Int) + 3 * i) % 8).toNat), rfl, by simp only [V.int.injEq]; omega, by omega, by omega, by rw [chr_len]; decide, ?_⟩
        exact lps (nm0 f a) D2 i _ nD2 hi' s6 hD6
      refine ⟨fun σ H6 => σ = [some (.ref p), some (.int m), some (.str sgS), some (.str st), some (.int a), some (.int f), some (.int wy), none] ∧ H5 = H6, ?_, ?_⟩
      · refine ⟨_, rfl, rfl, _, rfl, ite2 (fun _ => ?_) (fun _ => iteF ⟨rfl, rfl⟩)⟩
        refine ⟨_, rfl, _, _, rfl, rfl, _, rfl, ite2 (fun _ => ?_) (fun _ => ⟨rfl, rfl⟩)⟩
        refine ⟨_, rfl, _, rfl, by omega, by omega, fun D2 nD2 => ?_⟩
        rw [Int.toNat_natCast]
        refine lc_it (walk_range (lo := 0) (n := m)) (fun i H6 => Same H5 H6 ∧ H6 D2 = some (.lst (((List.range i).map (nm1 f a)).map V.str))) ⟨Same.upd nD2, upd_same⟩ (fun _ _ _ _ => trivial) ?_ (fun H6 ⟨s6, h6⟩ => fin _ D2 H6 (names1 hm f0 f1) nD2 s6 h6)
        rintro i x H6 H7 hi' ⟨s6, hD6⟩ ⟨rfl, hx⟩
        replace hx : x = V.int i := hx.trans (by show V.int (0 + (i : Int)) = _; rw [Int.zero_add])
        subst hx
        refine ⟨rfl, ?_⟩
        have r2 := md (x := (a : Int) + i) (k := 8) (by decide)
        refine ⟨_, rfl, _, rfl, sgS, _, _, rfl, rfl, by rw [sg_len]; decide, sg_at f0 f1, ?_⟩
        refine ⟨_, rfl, _, rfl, _, _, rfl, rfl, _, _, rfl, rfl, (by show (0 : Int) < 8; decide), _, _, rfl, rfl, chr f, (1 + (((a : Int) + i) % 8).toNat), rfl, by simp only [V.int.injEq]; omega, by omega, by omega, by rw [chr_len]; decide, ?_⟩
        exact lps (nm1 f a) D2 i _ nD2 hi' s6 hD6
      · rintro σ H6 ⟨rfl, rfl⟩
        refine ⟨_, rfl, _, rfl, by omega, by omega, fun D2 nD2 => ?_⟩
        rw [Int.toNat_natCast]
        have hal : a ≤ st.length := by omega
        refine lc_it (walk_range (lo := 0) (n := m)) (fun i H6 => Same H5 H6 ∧ H6 D2 = some (.lst (((List.range i).map (nm2 st f a)).map V.str))) ⟨Same.upd nD2, upd_same⟩ (fun _ _ _ _ => trivial) ?_ (fun H6 ⟨s6, h6⟩ => fin _ D2 H6 (names2 hm hal j1 (by omega)) nD2 s6 h6)
        rintro i x H6 H7 hi' ⟨s6, hD6⟩ ⟨rfl, hx⟩
        replace hx : x = V.int i := hx.trans (by show V.int (0 + (i : Int)) = _; rw [Int.zero_add])
        subst hx
        refine ⟨rfl, ?_⟩
        have r1 := md (x := f + 5 * i) (k := 26) (by decide)
        have z1 : (cutS st none (some (a : Int))).length ≤ 7 := by rw [len_tl, tl_cut_to st hal, List.length_take]; omega
        have z2 : (cutS st (some (a : Int)) none).length ≤ 7 := by rw [len_tl, tl_cut_from st hal, List.length_drop, ← len_tl]; omega
        refine ⟨_, rfl, _, rfl, _, rfl, st, rfl, by rw [sizeLine_eq]; omega, ?_⟩
        refine ⟨_, rfl, _, rfl, _, rfl, _, _, rfl, rfl, .inl ⟨by omega, by omega⟩, _, _, rfl, rfl, _, _, rfl, rfl, (by show (0 : Int) < 26; decide), sgS, _, _, rfl, rfl, by rw [sg_len]; decide, sg_at r1.1 r1.2, ?_⟩
        refine ⟨_, chr ((f + 5 * i) % 26), rfl, rfl, by rw [chr_len, sizeLine_eq]; omega, ?_⟩
        refine ⟨_, rfl, _, rfl, _, rfl, st, rfl, by rw [sizeLine_eq]; omega, ?_⟩
        refine ⟨_, _, rfl, rfl, by rw [Str.length_append, chr_len, sizeLine_eq]; omega, ?_⟩
        exact lps (nm2 st f a) D2 i _ nD2 hi' s6 hD6
end
end My

namespace My
open PySem PySem.Spec PyProof.Rows L2
/-! ### an exception that is caught and kept -/
/-- the exception object at a, of the class cls, with the dict d -/
def ExK (cls : Value) (d : Option Addr) (a : Addr) : HO := .ext fun h => ∃ (ob : Obj) (fl : Array Value), h.get? a = some ob ∧ Zc cls d ob ∧ ob.data = .fields fl
theorem exK_ok {P : Program} {w : World} {H : Hp} {h : Heap} {cls : Value} {d : Option Addr} {a : Addr} {ob : Obj} {fl : Array Value} (e : h.get? a = some ob) (z : Zc cls d ob) (q : ob.data = .fields fl) : ObjOk P w H h a (ExK cls d a) :=
  ⟨⟨ob, fl, e, z, q⟩, ⟨ob, e⟩, fun _ _ ⟨o1, f1, e1, z1, q1⟩ k => ⟨o1, f1, k o1 e1, z1, q1⟩⟩
section
variable {X : Cx} {pins : List (Addr × Obj)} {σ : L2.St} {H : Hp} {s : Shared}
theorem track {a : Addr} {ob : Obj} {fl : Array Value} {cls : Value} {d : Option Addr} (I : Inv X pins σ H s) (e : s.heap.get? a = some ob) (z : Zc cls d ob) (q : ob.data = .fields fl)
    (na : H a = none) (n0 : X.s_0.heap.get? a = none) (nL : a ≠ X.env.locals) (nP : ∀ p ∈ X.pn ++ pins, p.1 ≠ a) : Inv X pins σ (upd H a (ExK cls d a)) s := by
  have cne : ∀ y c, X.env.cells.lookup y = some c → c ≠ a := fun y c hc w => by
    obtain ⟨v, o1, e1, e2⟩ := I.cell y c hc
    rw [w, e] at e1
    cases e1
    simp [q] at e2
  refine ⟨I.ok, I.os, I.bare, ⟨I.base.keep, I.base.slot, fun b o hb hn hx => ?_, I.base.there, fun b xs hb => ?_, fun b o u hb => ?_, fun b ps hb => ?_⟩, I.loc, I.cell, ?_, fun y c hc => ?_, fun p hp => ?_, I.hok.laidN (fun _ _ h => h) na (exK_ok e z q), I.len⟩
  · rw [upd_ne (fun w => by rw [w, n0] at hb; cases hb)]
    exact I.base.free b o hb hn hx
  · have t := I.base.tups b xs hb
    rw [upd_ne (ne_of_none t na)]; exact t
  · have t := I.base.frzs b o u hb
    rw [upd_ne (ne_of_none t na)]; exact t
  · obtain ⟨mo, t⟩ := I.base.tbls b ps hb
    exact ⟨mo, by rw [upd_ne (ne_of_none t na)]; exact t⟩
  · rw [upd_ne nL.symm]; exact I.free
  · rw [upd_ne (cne y c hc)]; exact I.freeC y c hc
  · obtain ⟨t1, t2, t3⟩ := I.pin p hp
    exact ⟨t1, by rw [upd_ne (nP p hp)]; exact t2, t3⟩
end
/-- what the clause wishes: every exception of the body is of the class; it stays known behind the suite -/
def wKeep (K : PySem.W.Frag) (c : Value) (i : Nat) (ts : Addr → Value → Option Addr → TS) (D : Ends) : WX := fun cls d σ H =>
  PySem.W.exmOne K cls c = some true ∧ ∀ a, H a = none → ts a cls d { nx := fun σ1 H1 => D.nx (σ1.set i none) (upd H1 a (ExK cls d a)), rt := fun _ _ => False, bk := fun _ _ => False, ct := fun _ _ => False } (σ.set i (some (.ref a))) H
section
variable {X : Cx} {x n : Str} {c : Value} {i : Nat} {body suite : List Stmt} {st0 : Stmt} {np po po2 : Pos} {tb : WX → TS} {ts : Addr → Value → Option Addr → TS}
theorem ps_try_keep (hst : X.stack = X.env :: X.outer) (hfr : X.env.frame = some X.env.locals) (hex : X.ex = []) (hnd : X.N.Nodup) (hat : X.N[i]? = some n) (hlo : X.env.kindOf n = some .local) (hnm : Names X x c)
    (hbo : ∀ (W : WX) (pl : List (Addr × Obj)) (xe : Value → Shared → Prop), Takes (X.tr pl xe) W → PassesOwn (model X.prog X.w) X.A X.env xe → PSs (X.tr pl xe) body (tb W))
    (hsu : ∀ (a : Addr) (ob : Obj) (cls : Value) (d : Option Addr) (pl : List (Addr × Obj)), Zc cls d ob → (∃ fl, ob.data = .fields fl) → PSs (X.suite a ((a, ob) :: pl)) (st0 :: suite) (ts a cls d)) :
    PS X (.Try body [.ExceptHandler (some (.Name x np)) (some n) (st0 :: suite) po2] [] [] po) (fun D σ H => tb (wKeep X.K c i ts D) D σ H) := by
  refine ⟨fun pins s σ H D I h => ?_⟩
  have AF : X.A.frames = some (X.env :: X.outer) := by rw [I.ok.frames, hst]
  refine wpAny_Try_except ?_
  have bodyRun := (hbo (wKeep X.K c i ts D) (X.pn ++ pins)
    (fun e t1 => wpAny (model X.prog X.w) X.A (noteFrame e X.env) (fun _ t2 => wpAny (model X.prog X.w) X.A (setFlight e none)
      (fun _ t3 => wpAny (model X.prog X.w) X.A (handleBy e X.env [.ExceptHandler (some (.Name x np)) (some n) (st0 :: suite) po2]) (SP X pins D) X.xe t3) X.xe t2) X.xe t1)
    (fun u t air => ?_) PassesOwn.looking).run [] s σ H D (I.toTry _) h
  · refine wpAny_mono bodyRun (fun f t sp => ?_) fun _ _ he => he
    cases f with
    | next =>
      obtain ⟨σ1, H1, J, q⟩ := sp
      exact wpAny_execs_nil ⟨σ1, H1, J.ofTry I.ok, q⟩
    | brk => obtain ⟨σ1, H1, J, q⟩ := sp; exact ⟨σ1, H1, J.ofTry I.ok, q⟩
    | cont => obtain ⟨σ1, H1, J, q⟩ := sp; exact ⟨σ1, H1, J.ofTry I.ok, q⟩
    | ret u => obtain ⟨v, σ1, H1, J, r, q⟩ := sp; exact ⟨v, σ1, H1, J.ofTry I.ok, r, q⟩
  · obtain ⟨a, B, sI, pins1, σ1, H1, cls, d, rfl, Jt, ground, rise, sky, na, eos, bare, isC, wish⟩ := air
    have J : Inv X pins σ1 H1 sI := Jt.ofTry I.ok
    rw [show (X.tr (X.pn ++ pins) _).stack = X.env :: X.outer from hst] at sky
    show wpAny (model X.prog X.w) X.A (noteFrame (.ref a) X.env) _ _ _
    refine Sky.land Zc.steady AF hfr sky fun h3 fly rise3 => ?_
    have J3 : Inv X pins σ1 H1 { t with heap := h3 } := J.landed ground fly.1 (rise.trans rise3) eos bare
    obtain ⟨ob3, fl3, e3, z3, q3⟩ := fly.there
    have offFr : a ∉ frs (X.env :: X.outer) := fun hm => by
      obtain ⟨_, o1, e1, hno⟩ := fly.2.2.1.mem hm
      rw [e3] at e1; cases e1
      exact hno _ q3
    have offSt : a ∉ frs X.stack := by rw [hst]; exact offFr
    have offL : a ≠ X.env.locals := fun w => offFr (List.mem_filterMap.mpr ⟨X.env, List.mem_cons_self, by rw [hfr, w]⟩)
    have offF : a ∉ X.fs := fun hm => by
      obtain ⟨en, hen, qq⟩ := List.mem_filterMap.mp hm
      exact offFr (List.mem_filterMap.mpr ⟨en, List.mem_cons_of_mem _ hen, qq⟩)
    have fresh : ∀ o, sI.heap.get? a ≠ some o := fun o w => by
      have := ground a o w offSt
      rw [fly.2.1] at this; cases this
    have n0 : X.s_0.heap.get? a = none := by
      cases w : X.s_0.heap.get? a with
      | none => rfl
      | some o =>
        obtain ⟨o1, w1⟩ := J.base.there a o w (by rw [hex]; exact fun z => nomatch z)
        exact absurd w1 (fresh o1)
    have nP : ∀ p ∈ X.pn ++ pins, p.1 ≠ a := fun p hp w => by
      obtain ⟨w1, _⟩ := J.pin p hp
      rw [w] at w1
      exact fresh _ w1
    have S3 := J3.suite e3 q3 na offL offF
    refine wpAny_handleBy_cons (codeAny_handlers_test ?_) (by intro w; cases w)
    have LT : PySem.W.Looks (model X.prog X.w) h3 (typeOf (.ref a)) cls := fun A Q E s1 k w => wpAny_typeOf_ref (k _ _ e3) (by rw [z3.1]; exact w)
    have LM := PySem.W.exm_one (M := model X.prog X.w) (J3.kIn) LT isC
    have test : ∀ {Q : Value → Shared → Prop} {E : Value → Shared → Prop}, Q c { t with heap := h3 } → wpAny (model X.prog X.w) (X.A.mark (some (.ref a))) (eval (.Name x np) X.env) Q E { t with heap := h3 } := fun {Q E} w => by
      obtain ⟨g1, g2, g3 | ⟨g3, g4, g5⟩⟩ := hnm
      · exact ld_glob (X := X.suite a ((a, ob3) :: (X.pn ++ pins))) S3 g1 g3 w g2
      · exact ld_blt (X := X.suite a ((a, ob3) :: (X.pn ++ pins))) S3 g1 g3 g4 w g5 g2
    refine test (LM.here (codeAny_handlers_suite_as ?_))
    refine HandSPX.lands_againZ fly fun h4 fly4 rise4 => ?_
    have J4 : Inv X pins σ1 H1 { t with heap := h4 } := J.landed ground fly4.1 ((rise.trans rise3).trans rise4) eos bare
    obtain ⟨ob4, fl4, e4, z4, q4⟩ := fly4.there
    refine store_ok (X := X.suite a ((a, ob4) :: (X.pn ++ pins))) (v := .ref a) (J4.suite e4 q4 na offL offF) hnd hat (.inl hlo) rfl (fun s5 S5 => ?_) (.inr hlo)
    refine wpAny_mono ((hsu a ob4 cls d (X.pn ++ pins) z4 ⟨_, q4⟩).run [] s5 _ H1 _ S5 (wish a na)) (fun f s6 sp => ?_) (fun _ _ w => False.elim w)
    cases f with
    | next =>
      obtain ⟨σ6, H6, S6, q6⟩ := sp
      obtain ⟨p1, p2, _⟩ := S6.pin (a, ob4) (List.mem_append_left _ List.mem_cons_self)
      have T6 := track (S6.unsuite I.ok) p1 z4 q4 p2 n0 offL nP
      exact gone_ok T6 hnd hat hlo fun s7 J7 => ⟨_, _, J7, q6⟩
    | brk => obtain ⟨_, _, _, w⟩ := sp; exact False.elim w
    | cont => obtain ⟨_, _, _, w⟩ := sp; exact False.elim w
    | ret u => obtain ⟨_, _, _, _, _, w⟩ := sp; exact False.elim w
end
end My

namespace My
open PySem PySem.Spec PyProof.Rows L2
/-! ### D.__init__(self, ..), D an own class that has none of its own -/
structure DInit (K : PySem.W.Frag) (D : Addr) : Prop where
  rd : PySem.W.readsIn K D (.type "type") = true
  ga : PySem.W.specialIn K (.ref D) "__getattribute__" = some (some (.builtin "type.__getattribute__"))
  ini : PySem.W.findCls K (.ref D) (.type "type") "__init__" = some (.val (.builtin "ValueError.__init__"))
section
variable {X : Cx} {e : Expr} {es : List Expr} {ta : TA} {x : Str} {D : Addr} {q1 q2 q3 : Pos}
theorem pe_dinit {pl : Sem Bool} (gx : Gl X x) (mx : X.mg x = some (.ref D)) (T : DInit X.K D) (args : PA X (e :: es) ta) (ndb : (x == ("__debug__" : Str)) = false := by decide)
    (he : eval (.Call (.Attribute (.Name x q1) "__init__" q2) (e :: es) [] q3) X.env = (do
      let owner ← eval (.Name x q1) X.env
      standAt q2.atName
      let (fn, pre) ← holding [owner] (getMethod owner "__init__" pl)
      callWith q3 fn pre (backTo q3 (starEach (e :: es) X.env)) (backToKw q3 (keywordEach [] X.env))) := by rfl)
    (h1 : starEach (e :: es) X.env = (false, eval e X.env) :: starEach es X.env := by rfl) (h2 : (backTo q3 (starEach es X.env)).any (·.1) = false := by rfl) :
    PE X (.Call (.Attribute (.Name x q1) "__init__" q2) (e :: es) [] q3) (tVeI X.K ta) := by
  refine ⟨fun pins s σ H Q I want => ?_⟩
  refine PySem.W.methodCall_KW (ld_glob I gx mx (PySem.W.method_cls I.kIn T.ga (PySem.W.cls_value I.kIn T.rd T.ini (by decide +kernel) ?_)) ndb) he
  show wpAny _ _ (callWith q3 (Value.builtin "ValueError.__init__") [] (backTo q3 (starEach (e :: es) X.env)) []) _ _ _
  refine PyProof.Rows.callWith_method1 (thn (args.run q3 pins _ σ H _ (I.tok _) want) fun us t ⟨vs, H1, J, rel, a, C, ws, ev, few, TC, at_a, q⟩ => ?_) h1 h2
  subst ev
  cases rel with
  | @cons _ u0 _ ur r0 rs =>
    obtain rfl : u0 = Value.ref a := r0
    exact oinit_ok TC J at_a (by rw [← Paired.length rs, sizeLine_eq]; omega) fun t' J' => ⟨.non, H1, J', rfl, q⟩
end
/-! ### C(e, ..) as a value, C an own exception class with its own __init__ -/
def tMkV (C : Addr) (sp : Sp) (ta : TA) : TE := fun σ H Q => ta σ H fun vs H1 => vs.length ≤ 1000 ∧ ∀ a, H1 a = none → sp (.ref a :: vs) (upd H1 a (exo a C none)) (fun v H2 => v = .non ∧ Q (.ref a) H2) (fun _ _ _ => False)
section
variable {X : Cx} {e : Expr} {es : List Expr} {ta : TA} {x : Str} {C fI : Addr} {q1 q3 : Pos} {CX : CXT} {k : Nat} {fd : FuncData} {ps : List Str} {sp : Sp}
theorem pe_oexV (T : OexC X.K C) (ini : PySem.W.findIn X.K (.ref C) "__init__" = some (some (.ref fI))) (tyI : PySem.W.typeIn X.K (.ref fI) = some (.type "function")) (FI : FnOk X.prog X.w X.K X.mg X.base CX k fI fd ps sp) (room : Room (k + 1) X.A)
    (bd : Binds X.K fd ps []) (pass : Passes CX X (fun _ _ _ => False)) (gx : Gl X x) (mx : X.mg x = some (.ref C)) (args : PA X (e :: es) ta) (ndb : (x == ("__debug__" : Str)) = false := by decide)
    (h1 : starEach (e :: es) X.env = (false, eval e X.env) :: starEach es X.env := by rfl) (h2 : (backTo q3 (starEach es X.env)).any (·.1) = false := by rfl) :
    PE X (.Call (.Name x q1) (e :: es) [] q3) (tMkV C sp ta) := by
  refine ⟨fun pins s σ H Q I want => ?_⟩
  obtain ⟨nm, qn, N, bs, bm, sn, sub, ab, col, dd, k0, k1, k2, k3, k5, hC, hbm⟩ := T.cls
  refine wpAny_Call_Name_kw (ld_glob I gx mx ?_ ndb)
  refine PySem.W.callWith_K (h₀ := X.base) I.ok.mod.kin T.kC (thn (args.run q3 pins s σ H _ I want) fun us t ⟨vs, H1, J, rel, few, made⟩ => ⟨J.kIn, ?_⟩) h1 h2
  show wpAny _ _ (call (.ref C) us) _ _ _
  obtain ⟨hp, g, dr, tk, os⟩ := t
  have up1 : hp.objs.size ≤ hp.objs.size + 1 := Nat.le_succ _
  have new := made (hp.objs.size + 1) (J.hok.fresh up1)
  have here : ((hp.push (PySem.W.kdv_tup us)).push (PySem.HandSPX.excO C hp.objs.size)).get? (hp.objs.size + 1) = some (PySem.HandSPX.excO C hp.objs.size) := by heap_get
  have J2 : Inv X pins σ (upd H1 (hp.objs.size + 1) (exo (hp.objs.size + 1) C none)) ⟨(hp.push (PySem.W.kdv_tup us)).push (PySem.HandSPX.excO C hp.objs.size), g, dr, tk, os⟩ :=
    J.laid (t' := tk) (fun b o w => Heap.get?_push_of_some _ (Heap.get?_push_of_some _ w)) up1 (exo_ok here)
  have rel2 : Vals (V.ref (hp.objs.size + 1) :: vs) (Value.ref (hp.objs.size + 1) :: us) := .cons rfl rel
  have many : (Value.ref (hp.objs.size + 1) :: us).length = ps.length := by
    rw [← rel2.length]; exact FI.len _ _ _ _ new
  have fit : us.length ≤ sizeLine := by rw [← Paired.length rel, sizeLine_eq]; omega
  refine wpAny_call (PySem.HandSPX.call_own F.excBase_ValueError (fun Y => PySem.HandSPX.refsVE_contains Y bm hbm) (J.kIn _ _ hC) (PySem.W.looks_findIn J.kIn ini) (fun self => PySem.W.bind_fn J.kIn self tyI) fit
    (codeAny_mono (FI.run _ X.stack _ _ ⟨Value.ref (hp.objs.size + 1) :: us, []⟩ (Value.ref (hp.objs.size + 1) :: us) _ _ (fun _ _ _ => False) (room.make C us []) (J2.env0.make C us []) (by simpa using bd _ (Value.ref (hp.objs.size + 1) :: us) J2.kIn (by simpa using many)) rel2 new) fun r t' got => ?_))
  cases r with
  | error er => exact pass pins σ _ _ er t' J2 got
  | ok fl =>
    cases fl with
    | ret u =>
      obtain ⟨v, H2, e1, e2, un2, ok2, rv, ev, q⟩ := got
      subst ev
      exact ⟨rv, .ref (hp.objs.size + 1), H2, J2.call' (ch := []) e1 un2 ok2 e2 (fun b z => absurd z (by simp)), rfl, q⟩
    | next => exact False.elim got
    | brk => exact False.elim got
    | cont => exact False.elim got
end
end My

namespace My
open PySem PySem.Spec PyProof.Rows L2
/-! ### isinstance and fields of an exception that is known -/
def IsX (H : Hp) (a C : Addr) (d : Option Addr) : Prop := H a = some (exo a C d) ∨ H a = some (ExK (.ref C) d a) ∨ (d = none ∧ H a = some (ExO (.ref C) a))
def HasF (H : Hp) (dd : Addr) (fs : List (Str × V)) : Prop := H dd = some (exd dd fs) ∨ H dd = some (.xd fs)
structure ExI (K : PySem.W.Frag) (D : Addr) : Prop where
  cl : (PySem.W.clsIn K D).isSome = true
  hg : PySem.W.findIn K (.ref D) "__getattribute__" = some (some (.builtin "BaseException.__getattribute__"))
  hk : PySem.W.findIn K (.ref D) "__getattr__" = some none
  hs : PySem.W.subIn K (.ref D) (.type "BaseException") = some true
  ha : PySem.W.findIn K (.ref D) "__class__" = some (some (.builtin "object.__class__"))
  hn : PySem.W.specialIn K (.builtin "object.__class__") "__get__" = some (some (.builtin "getset_descriptor.__get__"))
  ht : PySem.W.takesIn K (.builtin "object.__class__") = some true
  hm : PySem.W.mroIn K D (.type "object") = some true
section
variable {X : Cx} {pins : List (Addr × Obj)} {σ : L2.St} {H : Hp} {s : Shared}
theorem isx_at {a C : Addr} {d : Option Addr} (I : Inv X pins σ H s) (h : IsX H a C d) : ∃ ob fl, s.heap.get? a = some ob ∧ Zc (.ref C) d ob ∧ ob.data = .fields fl := by
  rcases h with h | h | ⟨rfl, h⟩
  · obtain ⟨t, e⟩ := exo_at I.hok h
    exact ⟨_, _, e, ⟨rfl, rfl⟩, rfl⟩
  · obtain ⟨⟨ob, fl, e, z, q⟩, _⟩ := I.hok a _ h
    exact ⟨ob, fl, e, z, q⟩
  · obtain ⟨⟨ob, fl, e, z, q, _⟩, _⟩ := I.hok a _ h
    exact ⟨ob, fl, e, z, q⟩
theorem hasf_at {dd : Addr} {fs : List (Str × V)} (I : Inv X pins σ H s) (h : HasF H dd fs) : ∃ mA, s.heap.Ns1 dd mA ∧ ∀ f, RelO (fs.lookup f) (mA f) := by
  rcases h with h | h
  · exact exd_at I.hok h
  · exact I.hok dd _ h
theorem inst_at {a C : Addr} {d : Option Addr} (I : Inv X pins σ H s) (h : IsX H a C d) (hd : ∀ dd, d = some dd → ∃ fs, HasF H dd fs) : ∃ ob od, PySem.W.InstAt s.heap a ob C od := by
  obtain ⟨ob, fl, e, ⟨z1, z2⟩, q⟩ := isx_at I h
  have nc : PySem.W.notCls ob = true := by unfold PySem.W.notCls; rw [q] <;> rfl
  cases d with
  | none => exact ⟨ob, none, e, z1, nc, by rw [z2]; trivial⟩
  | some dd =>
    obtain ⟨fs, hf⟩ := hd dd rfl
    obtain ⟨mA, hns, _⟩ := hasf_at I hf
    obtain ⟨od, ho, _⟩ := lookIn_ns hns
    exact ⟨ob, some od, e, z1, nc, by rw [z2]; exact ho⟩
def rIsK (K : PySem.W.Frag) : List V → Hp → VK → Prop := fun xs H Q => ∃ (a D : Addr) (d : Option Addr) (c : V) (cv : Value) (b : Bool), xs = [.ref a, c] ∧ ExI K D ∧ IsX H a D d ∧ (∀ dd, d = some dd → ∃ fs, HasF H dd fs) ∧ (∀ u, RelV c u → u = cv) ∧ PySem.W.kitOne K (.ref D) cv = some b ∧ Q (.bl b) H
theorem call_isK : CallR X (.builtin "isinstance") (rIsK X.K) := by
  intro pins s σ H xs us Q I r h
  obtain ⟨a, D, d, c, cv, b, rfl, T, hx, hd, hcv, e, q⟩ := h
  cases r with
  | cons r1 rr =>
    cases rr with
    | cons r2 rr =>
      cases rr
      cases r1
      obtain rfl := hcv _ r2
      obtain ⟨ob, od, J⟩ := inst_at I hx hd
      exact PySem.W.kia_one (PySem.W.kitx_exc T.cl T.hg T.hk T.hs T.ha T.hn T.ht T.hm) I.kIn J e (fun z => nomatch z) fun tk => ⟨.bl b, H, I.kept (t' := tk) fun _ _ z => z, rfl, q⟩
/-- e.f, e an exception with a dict -/
def tXk (K : PySem.W.Frag) (f : Str) (te : TE) : TE := fun σ H Q => te σ H fun x H1 => ∃ (a C dd : Addr) (fs : List (Str × V)) (v : V), x = .ref a ∧ XfC K C ∧ PySem.W.findIn K (.ref C) f = some none ∧ IsX H1 a C (some dd) ∧ HasF H1 dd fs ∧ fs.lookup f = some v ∧ Q v H1
theorem pe_xk {e : Expr} {te : TE} {pos : Pos} {n : Str} (he : PE X e te) (hb : attributeBase e n X.env (eval e X.env) = eval e X.env := by rfl) : PE X (.Attribute e n pos) (tXk X.K n te) := by
  refine ⟨fun pins s σ H Q I h => ?_⟩
  refine attr_of hb (thn (he.run pins s σ H _ I h) fun u t hh => ?_)
  obtain ⟨x, H1, J, rx, a, C, dd, fs, v, ex, T, hno, hx, hf, l, q⟩ := hh
  subst ex
  obtain rfl : u = Value.ref a := rx
  obtain ⟨ob, fl, e1, ⟨z1, z2⟩, q1⟩ := isx_at J hx
  obtain ⟨mA, hns, rel⟩ := hasf_at J hf
  obtain ⟨od, ho, hl⟩ := lookIn_ns hns
  obtain ⟨u, hu, ru⟩ := RelO.some_of (v := v) (o := mA n) (by rw [← l]; exact rel n)
  have at_a : PySem.W.InstAt t.heap a ob C (some od) := ⟨e1, z1, by unfold PySem.W.notCls; rw [q1] <;> rfl, by rw [z2]; exact ho⟩
  exact HandSPX.exc_get J.kIn at_a T.ga T.gg T.exC (PySem.W.findObj_own T.hdC hno rfl (by rw [hl, hu])) (handed_of ru) ⟨v, H1, J.tok _, ru, q⟩
end
end My

namespace My
open PySem PySem.Spec PyProof.Rows L2
def inS (i : Nat) : Stmt := match topS i with
  | .ClassDef _ _ _ b _ _ _ _ _ _ _ => b.getD 0 (.Pass ⟨0, 0, 0, 0⟩)
  | _ => .Pass ⟨0, 0, 0, 0⟩
def oexB (K : PySem.W.Frag) (C : Addr) : Bool := match K.lookup C with
  | some ⟨.type "type", _, .cls cd, sl⟩ => (match cd.mro with
    | .ref C' :: bm => (match sl.toList with
      | [_, _, _, _, some (.builtin n), _] => (C' == C) && ((n == "ValueError.__new__") && ((!cd.hasDel) && (cd.hasDict && PySem.HandSPX.refsVE bm)))
      | _ => false)
    | _ => false)
  | _ => false
theorem oexB_ok {K : PySem.W.Frag} {C : Addr} (q : oexB K C = true) : ∃ nm qn N bs bm sn sub ab col dd k0 k1 k2 k3 k5, K.lookup C = some (excClassObj nm qn C N bs bm true sn sub ab col dd k0 k1 k2 k3 k5 "ValueError.__new__") ∧ PySem.HandSPX.refsVE bm = true := by
  unfold oexB at q
  split at q
  · rename_i dd cd sl hl
    split at q
    · rename_i C' bm hm
      split at q
      · rename_i k0 k1 k2 k3 n k5 hs
        simp only [Bool.and_eq_true, beq_iff_eq, Bool.not_eq_true'] at q
        obtain ⟨e1, e2, e3, e4, e5⟩ := q
        subst e1 e2
        obtain ⟨nm, bs, mro, ns, qn, hd, sn, sub, ab, col, dl⟩ := cd
        dsimp only at hm e3 e4
        subst hm e3 e4
        have hsl : sl = #[k0, k1, k2, k3, some (.builtin "ValueError.__new__"), k5] := by
          obtain ⟨l⟩ := sl
          simp only at hs
          rw [hs]
        subst hsl
        exact ⟨nm, qn, ns, bs, bm, sn, sub, ab, col, dd, k0, k1, k2, k3, k5, hl, e5⟩
      · cases q
    · cases q
  · cases q
def iniB (K : PySem.W.Frag) (C : Addr) (f : Str) : Bool := oexB K C && (decide (PySem.W.findIn K (.ref C) "__setattr__" = some (some (.builtin "object.__setattr__"))) && (decide (PySem.W.subIn K (.ref C) (.type "BaseException") = some true) && (decide (PySem.W.typeIn K (.ref C) = some (.type "type")) && (PySem.W.keepIn K (.ref C) && decide (PySem.W.findIn K (.ref C) f = some none)))))
theorem iniB_ok {K : PySem.W.Frag} {C : Addr} {f : Str} (h : iniB K C f = true) : OexC K C ∧ PySem.W.findIn K (.ref C) f = some none := by
  unfold iniB at h
  simp only [Bool.and_eq_true, decide_eq_true_eq] at h
  obtain ⟨h1, h2, h3, h4, h5, h6⟩ := h
  exact ⟨⟨oexB_ok h1, h2, h3, h4, h5⟩, h6⟩
def exiB (K : PySem.W.Frag) (D : Addr) : Bool := (PySem.W.clsIn K D).isSome && (decide (PySem.W.findIn K (.ref D) "__getattribute__" = some (some (.builtin "BaseException.__getattribute__"))) && (decide (PySem.W.findIn K (.ref D) "__getattr__" = some none) && (decide (PySem.W.subIn K (.ref D) (.type "BaseException") = some true) &&
  (decide (PySem.W.findIn K (.ref D) "__class__" = some (some (.builtin "object.__class__"))) && (decide (PySem.W.specialIn K (.builtin "object.__class__") "__get__" = some (some (.builtin "getset_descriptor.__get__"))) && (decide (PySem.W.takesIn K (.builtin "object.__class__") = some true) && decide (PySem.W.mroIn K D (.type "object") = some true)))))))
theorem exiB_ok {K : PySem.W.Frag} {D : Addr} (h : exiB K D = true) : ExI K D := by
  unfold exiB at h
  simp only [Bool.and_eq_true, decide_eq_true_eq] at h
  obtain ⟨h1, h2, h3, h4, h5, h6, h7, h8⟩ := h
  exact ⟨h1, h2, h3, h4, h5, h6, h7, h8⟩
def Few (y : V) : Prop := (∃ i : Int, y = .int i ∧ i.natAbs.log2 < 1920) ∨ ∃ x : Str, y = .str x ∧ x.length ≤ 100
def spIni (K : PySem.W.Frag) (C : Addr) (f : Str) : Sp := fun vs H Q _ => ∃ (a : Addr) (y : V), vs = [.ref a, y] ∧ OexC K C ∧ PySem.W.findIn K (.ref C) f = some none ∧ H a = some (exo a C none) ∧ Few y ∧ ∀ dx, H dx = none → dx ≠ a → Q .non (upd (upd H dx (exd dx [(f, y)])) a (exo a C (some dx)))
theorem few_txt {i : Int} (h : i.natAbs.log2 < 1920) : (Str.ofString (toString i)).length ≤ 1921 := int_text_len_1921 h
section
variable {P : Program} {w : World} {K : PySem.W.Frag} {mg : Str → Option Value} {base : Heap}
theorem scTooMany : FnScope ["self", "most"] ["self", "most"] (defScope (inS 2)) := ⟨rfl, rfl, rfl, by decide +kernel, rfl, by decide +kernel, by decide +kernel⟩
theorem ini_TooMany {C D fI : Addr} {fd : FuncData} (F : Fun K "__init__" "TooMany.__init__" (inS 2) fI fd) (mD : mg "DustError" = some (.ref D)) (TD : DInit K D) : FnOk P w K mg base CX0 1 fI fd ["self", "most"] (spIni K C "most") := by
  refine F.ok scTooMany (fun vs H Q E h => ?_) (fun cdv A outer s H vs Q E hr h => ?_)
  · obtain ⟨a, y, rfl, _⟩ := h
    rfl
  · obtain ⟨a, y, rfl, T, hno, ha, few, k⟩ := h
    refine ⟨_, pss_cons (ps_expr (pe_dinit (by rfl) mD TD (pa_cons (pv 0) (pa_cons (pe_joined (PJ.cons pe_str (PJ.cons (pe_fmt (pv 1)) PJ.nil))) pa_nil)))) (pss_one (ps_ost (pv 0) (pv 1))), ?_⟩
    have e0 : (Str.empty ++ (("more than " : String) : Str)).length ≤ 30 := by decide
    refine ⟨_, rfl, _, rfl, by rw [sizeLine_eq]; omega, _, rfl, ?_⟩
    rcases few with ⟨n, rfl, hn⟩ | ⟨x, rfl, hx⟩
    · refine .inr ⟨n, rfl, hn, _, rfl, by rw [Str.length_append, sizeLine_eq]; have := few_txt hn; omega, a, C, _, rfl, by show 1 ≤ 1000; decide, T, ha, ?_⟩
      exact ⟨_, rfl, _, rfl, a, C, rfl, T, hno, .inl ⟨ha, k⟩⟩
    · refine .inl ⟨x, rfl, by rw [sizeLine_eq]; omega, _, rfl, by rw [Str.length_append, sizeLine_eq]; omega, a, C, _, rfl, by show 1 ≤ 1000; decide, T, ha, ?_⟩
      exact ⟨_, rfl, _, rfl, a, C, rfl, T, hno, .inl ⟨ha, k⟩⟩
theorem scFull : FnScope ["self", "most"] ["self", "most"] (defScope (inS 3)) := ⟨rfl, rfl, rfl, by decide +kernel, rfl, by decide +kernel, by decide +kernel⟩
theorem ini_Full {C D fI : Addr} {fd : FuncData} (F : Fun K "__init__" "Full.__init__" (inS 3) fI fd) (mD : mg "DustError" = some (.ref D)) (TD : DInit K D) : FnOk P w K mg base CX0 1 fI fd ["self", "most"] (spIni K C "most") := by
  refine F.ok scFull (fun vs H Q E h => ?_) (fun cdv A outer s H vs Q E hr h => ?_)
  · obtain ⟨a, y, rfl, _⟩ := h
    rfl
  · obtain ⟨a, y, rfl, T, hno, ha, few, k⟩ := h
    refine ⟨_, pss_cons (ps_expr (pe_dinit (by rfl) mD TD (pa_cons (pv 0) (pa_cons (pe_joined (PJ.cons (pe_fmt (pv 1)) (PJ.cons pe_str PJ.nil))) pa_nil)))) (pss_one (ps_ost (pv 0) (pv 1))), ?_⟩
    have e0 : (((" stand there already" : String) : Str)).length ≤ 30 := by decide
    have e1 : (Str.empty).length = 0 := by decide
    refine ⟨_, rfl, _, rfl, ?_⟩
    rcases few with ⟨n, rfl, hn⟩ | ⟨x, rfl, hx⟩
    · have := few_txt hn
      refine .inr ⟨n, rfl, hn, _, rfl, by rw [Str.length_append, sizeLine_eq]; omega, _, rfl, by rw [Str.length_append, Str.length_append, sizeLine_eq]; omega, a, C, _, rfl, by show 1 ≤ 1000; decide, T, ha, ?_⟩
      exact ⟨_, rfl, _, rfl, a, C, rfl, T, hno, .inl ⟨ha, k⟩⟩
    · refine .inl ⟨x, rfl, by rw [sizeLine_eq]; omega, _, rfl, by rw [Str.length_append, sizeLine_eq]; omega, _, rfl, by rw [Str.length_append, Str.length_append, sizeLine_eq]; omega, a, C, _, rfl, by show 1 ≤ 1000; decide, T, ha, ?_⟩
      exact ⟨_, rfl, _, rfl, a, C, rfl, T, hno, .inl ⟨ha, k⟩⟩
theorem scHeld : FnScope ["self", "name"] ["self", "name"] (defScope (inS 4)) := ⟨rfl, rfl, rfl, by decide +kernel, rfl, by decide +kernel, by decide +kernel⟩
theorem ini_Held {C D fI : Addr} {fd : FuncData} (F : Fun K "__init__" "Held.__init__" (inS 4) fI fd) (mD : mg "DustError" = some (.ref D)) (TD : DInit K D) : FnOk P w K mg base CX0 1 fI fd ["self", "name"] (spIni K C "name") := by
  refine F.ok scHeld (fun vs H Q E h => ?_) (fun cdv A outer s H vs Q E hr h => ?_)
  · obtain ⟨a, y, rfl, _⟩ := h
    rfl
  · obtain ⟨a, y, rfl, T, hno, ha, few, k⟩ := h
    refine ⟨_, pss_cons (ps_expr (pe_dinit (by rfl) mD TD (pa_cons (pv 0) (pa_cons (pe_joined (PJ.cons pe_str (PJ.cons (pe_fmt (pv 1)) PJ.nil))) pa_nil)))) (pss_one (ps_ost (pv 0) (pv 1))), ?_⟩
    have e0 : (Str.empty ++ (("held by " : String) : Str)).length ≤ 30 := by decide
    refine ⟨_, rfl, _, rfl, by rw [sizeLine_eq]; omega, _, rfl, ?_⟩
    rcases few with ⟨n, rfl, hn⟩ | ⟨x, rfl, hx⟩
    · refine .inr ⟨n, rfl, hn, _, rfl, by rw [Str.length_append, sizeLine_eq]; have := few_txt hn; omega, a, C, _, rfl, by show 1 ≤ 1000; decide, T, ha, ?_⟩
      exact ⟨_, rfl, _, rfl, a, C, rfl, T, hno, .inl ⟨ha, k⟩⟩
    · refine .inl ⟨x, rfl, by rw [sizeLine_eq]; omega, _, rfl, by rw [Str.length_append, sizeLine_eq]; omega, a, C, _, rfl, by show 1 ≤ 1000; decide, T, ha, ?_⟩
      exact ⟨_, rfl, _, rfl, a, C, rfl, T, hno, .inl ⟨ha, k⟩⟩
theorem scRing : FnScope ["self", "name"] ["self", "name"] (defScope (inS 5)) := ⟨rfl, rfl, rfl, by decide +kernel, rfl, by decide +kernel, by decide +kernel⟩
theorem ini_Ring {C D fI : Addr} {fd : FuncData} (F : Fun K "__init__" "Ring.__init__" (inS 5) fI fd) (mD : mg "DustError" = some (.ref D)) (TD : DInit K D) : FnOk P w K mg base CX0 1 fI fd ["self", "name"] (spIni K C "name") := by
  refine F.ok scRing (fun vs H Q E h => ?_) (fun cdv A outer s H vs Q E hr h => ?_)
  · obtain ⟨a, y, rfl, _⟩ := h
    rfl
  · obtain ⟨a, y, rfl, T, hno, ha, few, k⟩ := h
    refine ⟨_, pss_cons (ps_expr (pe_dinit (by rfl) mD TD (pa_cons (pv 0) (pa_cons (pe_joined (PJ.cons pe_str (PJ.cons (pe_fmt (pv 1)) PJ.nil))) pa_nil)))) (pss_one (ps_ost (pv 0) (pv 1))), ?_⟩
    have e0 : (Str.empty ++ (("comes back by " : String) : Str)).length ≤ 30 := by decide
    refine ⟨_, rfl, _, rfl, by rw [sizeLine_eq]; omega, _, rfl, ?_⟩
    rcases few with ⟨n, rfl, hn⟩ | ⟨x, rfl, hx⟩
    · refine .inr ⟨n, rfl, hn, _, rfl, by rw [Str.length_append, sizeLine_eq]; have := few_txt hn; omega, a, C, _, rfl, by show 1 ≤ 1000; decide, T, ha, ?_⟩
      exact ⟨_, rfl, _, rfl, a, C, rfl, T, hno, .inl ⟨ha, k⟩⟩
    · refine .inl ⟨x, rfl, by rw [sizeLine_eq]; omega, _, rfl, by rw [Str.length_append, sizeLine_eq]; omega, a, C, _, rfl, by show 1 ≤ 1000; decide, T, ha, ?_⟩
      exact ⟨_, rfl, _, rfl, a, C, rfl, T, hno, .inl ⟨ha, k⟩⟩
theorem scNoText : FnScope ["self", "place"] ["self", "place"] (defScope (inS 6)) := ⟨rfl, rfl, rfl, by decide +kernel, rfl, by decide +kernel, by decide +kernel⟩
theorem ini_NoText {C D fI : Addr} {fd : FuncData} (F : Fun K "__init__" "NoText.__init__" (inS 6) fI fd) (mD : mg "DustError" = some (.ref D)) (TD : DInit K D) : FnOk P w K mg base CX0 1 fI fd ["self", "place"] (spIni K C "place") := by
  refine F.ok scNoText (fun vs H Q E h => ?_) (fun cdv A outer s H vs Q E hr h => ?_)
  · obtain ⟨a, y, rfl, _⟩ := h
    rfl
  · obtain ⟨a, y, rfl, T, hno, ha, few, k⟩ := h
    refine ⟨_, pss_cons (ps_expr (pe_dinit (by rfl) mD TD (pa_cons (pv 0) (pa_cons (pe_joined (PJ.cons pe_str (PJ.cons (pe_fmt (pv 1)) PJ.nil))) pa_nil)))) (pss_one (ps_ost (pv 0) (pv 1))), ?_⟩
    have e0 : (Str.empty ++ (("cannot be read at " : String) : Str)).length ≤ 30 := by decide
    refine ⟨_, rfl, _, rfl, by rw [sizeLine_eq]; omega, _, rfl, ?_⟩
    rcases few with ⟨n, rfl, hn⟩ | ⟨x, rfl, hx⟩
    · refine .inr ⟨n, rfl, hn, _, rfl, by rw [Str.length_append, sizeLine_eq]; have := few_txt hn; omega, a, C, _, rfl, by show 1 ≤ 1000; decide, T, ha, ?_⟩
      exact ⟨_, rfl, _, rfl, a, C, rfl, T, hno, .inl ⟨ha, k⟩⟩
    · refine .inl ⟨x, rfl, by rw [sizeLine_eq]; omega, _, rfl, by rw [Str.length_append, sizeLine_eq]; omega, a, C, _, rfl, by show 1 ≤ 1000; decide, T, ha, ?_⟩
      exact ⟨_, rfl, _, rfl, a, C, rfl, T, hno, .inl ⟨ha, k⟩⟩
end
end My

namespace My
open PySem PySem.Spec PyProof.Rows L2
abbrev sKinds : Stmt := topS 19
abbrev sCaught : Stmt := topS 20
/-- the twelve classes, and the one over them -/
structure Cls (K : PySem.W.Frag) (mg : Str → Option Value) (cs : List Addr) (D : Addr) : Prop where
  m0 : mg "TooMany" = some (.ref (cs.getD 0 0))
  m1 : mg "Full" = some (.ref (cs.getD 1 0))
  m2 : mg "Held" = some (.ref (cs.getD 2 0))
  m3 : mg "Ring" = some (.ref (cs.getD 3 0))
  m4 : mg "NoText" = some (.ref (cs.getD 4 0))
  m5 : mg "NoBase" = some (.ref (cs.getD 5 0))
  m6 : mg "NoWay" = some (.ref (cs.getD 6 0))
  m7 : mg "NoStretch" = some (.ref (cs.getD 7 0))
  m8 : mg "NoName" = some (.ref (cs.getD 8 0))
  m9 : mg "NoForm" = some (.ref (cs.getD 9 0))
  m10 : mg "NoMark" = some (.ref (cs.getD 10 0))
  m11 : mg "NoRow" = some (.ref (cs.getD 11 0))
  mD : mg "DustError" = some (.ref D)
  ex : ∀ j, j < 12 → ExI K (cs.getD j 0)
  kit : ∀ j k, j < 12 → k < 12 → PySem.W.kitOne K (.ref (cs.getD j 0)) (.ref (cs.getD k 0)) = some (decide (k = j))
  kitD : ∀ j, j < 12 → PySem.W.kitOne K (.ref (cs.getD j 0)) (.ref D) = some true
  kitV : ∀ j, j < 12 → PySem.W.kitOne K (.ref (cs.getD j 0)) (.type "ValueError") = some true
structure TxK (mg : Str → Option Value) : Prop where
  isi : mg "isinstance" = none
def dueV (j : Nat) : List V := (List.range 12).map fun k => V.bl (decide (k = j))
def HasD (H : Hp) (d : Option Addr) : Prop := ∀ dd, d = some dd → ∃ fs, HasF H dd fs
theorem IsX.same {H H' : Hp} {a C : Addr} {d : Option Addr} (h : IsX H a C d) (e : Same H H') : IsX H' a C d := by
  rcases h with h | h | ⟨q, h⟩
  · exact .inl (e _ _ h)
  · exact .inr (.inl (e _ _ h))
  · exact .inr (.inr ⟨q, e _ _ h⟩)
theorem HasD.same {H H' : Hp} {d : Option Addr} (h : HasD H d) (e : Same H H') : HasD H' d := fun dd q => by
  obtain ⟨fs, f⟩ := h dd q
  rcases f with f | f
  · exact ⟨fs, .inl (e _ _ f)⟩
  · exact ⟨fs, .inr (e _ _ f)⟩
def spKinds (cs : List Addr) : Sp := fun vs H Q _ => ∃ (a : Addr) (j : Nat) (d : Option Addr), vs = [.ref a] ∧ j < 12 ∧ IsX H a (cs.getD j 0) d ∧ HasD H d ∧ ∀ (l : Addr) (H' : Hp), Same H H' → H l = none → H' l = some (.lst (dueV j)) → Q (.ref l) H'
def spCaught : Sp := fun vs H Q _ => ∃ n : Int, vs = [.int n] ∧ n.natAbs.log2 < 1920 ∧ ∀ H', Same H H' → Q (.bl true) H'
section
variable {P : Program} {w : World} {K : PySem.W.Frag} {mg : Str → Option Value} {base : Heap}
theorem scKinds : FnScope ["one", "found"] ["one"] (defScope sKinds) := ⟨rfl, rfl, rfl, by decide +kernel, rfl, by decide +kernel, by decide +kernel⟩
theorem ok_kinds {f D : Addr} {fd : FuncData} {cs : List Addr} (F : Fun K "_law_kinds" "_law_kinds" sKinds f fd) (T : TxK mg) (M : Cls K mg cs D) : FnOk P w K mg base CX0 1 f fd ["one"] (spKinds cs) := by
  refine F.ok scKinds (fun vs H Q E h => ?_) (fun cdv A outer s H vs Q E hr h => ?_)
  · obtain ⟨a, j, d, rfl, _⟩ := h
    rfl
  · obtain ⟨a, j, d, rfl, hj, hx, hf, k⟩ := h
    have hx0 := hx
    have hf0 := hf
    refine ⟨_, (pss_cons (ps_set (i := 1) scKinds.nd rfl (Or.inl rfl) (pe_lst (pa_cons (pe_callB call_isK (by rfl) T.isi boot_isinstance (pa_cons (pv 0) (pa_cons (pe_glob (v := .ref (cs.getD 0 0)) (by rfl) M.m0 rfl) pa_nil))) (pa_cons (pe_callB call_isK (by rfl) T.isi boot_isinstance (pa_cons (pv 0) (pa_cons (pe_glob (v := .ref (cs.getD 1 0)) (by rfl) M.m1 rfl) pa_nil))) (pa_cons (pe_callB call_isK (by rfl) T.isi boot_isinstance (pa_cons (pv 0) (pa_cons (pe_glob (v := .ref (cs.getD 2 0)) (by rfl) M.m2 rfl) pa_nil))) (pa_cons (pe_callB call_isK (by rfl) T.isi boot_isinstance (pa_cons (pv 0) (pa_cons (pe_glob (v := .ref (cs.getD 3 0)) (by rfl) M.m3 rfl) pa_nil))) pa_nil))))))
      (pss_cons (ps_set (i := 1) scKinds.nd rfl (Or.inl rfl) (pe_op op_cat (pv 1) (pe_lst (pa_cons (pe_callB call_isK (by rfl) T.isi boot_isinstance (pa_cons (pv 0) (pa_cons (pe_glob (v := .ref (cs.getD 4 0)) (by rfl) M.m4 rfl) pa_nil))) (pa_cons (pe_callB call_isK (by rfl) T.isi boot_isinstance (pa_cons (pv 0) (pa_cons (pe_glob (v := .ref (cs.getD 5 0)) (by rfl) M.m5 rfl) pa_nil))) (pa_cons (pe_callB call_isK (by rfl) T.isi boot_isinstance (pa_cons (pv 0) (pa_cons (pe_glob (v := .ref (cs.getD 6 0)) (by rfl) M.m6 rfl) pa_nil))) pa_nil))))))
      (pss_cons (ps_expr (pe_bm PySem.F.plainAttrs_list PySem.F.slot_list_append PySem.F.type_list_append mt_append (pv 1) (pa_cons (pe_callB call_isK (by rfl) T.isi boot_isinstance (pa_cons (pv 0) (pa_cons (pe_glob (v := .ref (cs.getD 7 0)) (by rfl) M.m7 rfl) pa_nil))) pa_nil)))
      (pss_one (ps_ret (pe_op op_cat (pv 1) (pe_lst (pa_cons (pe_callB call_isK (by rfl) T.isi boot_isinstance (pa_cons (pv 0) (pa_cons (pe_glob (v := .ref (cs.getD 8 0)) (by rfl) M.m8 rfl) pa_nil))) (pa_cons (pe_callB call_isK (by rfl) T.isi boot_isinstance (pa_cons (pv 0) (pa_cons (pe_glob (v := .ref (cs.getD 9 0)) (by rfl) M.m9 rfl) pa_nil))) (pa_cons (pe_callB call_isK (by rfl) T.isi boot_isinstance (pa_cons (pv 0) (pa_cons (pe_glob (v := .ref (cs.getD 10 0)) (by rfl) M.m10 rfl) pa_nil))) (pa_cons (pe_callB call_isK (by rfl) T.isi boot_isinstance (pa_cons (pv 0) (pa_cons (pe_glob (v := .ref (cs.getD 11 0)) (by rfl) M.m11 rfl) pa_nil))) pa_nil))))))))))), ?_⟩
    refine ⟨_, rfl, a, _, d, _, _, _, rfl, M.ex j hj, hx, hf, (fun _ r => r), M.kit j 0 hj (by decide), _, rfl, a, _, d, _, _, _, rfl, M.ex j hj, hx, hf, (fun _ r => r), M.kit j 1 hj (by decide), _, rfl, a, _, d, _, _, _, rfl, M.ex j hj, hx, hf, (fun _ r => r), M.kit j 2 hj (by decide), _, rfl, a, _, d, _, _, _, rfl, M.ex j hj, hx, hf, (fun _ r => r), M.kit j 3 hj (by decide), (by show 4 ≤ sizeLine; decide), fun l1 n1 => ?_⟩
    have s1 : Same H (upd H l1 (.lst [V.bl (decide (0 = j)), V.bl (decide (1 = j)), V.bl (decide (2 = j)), V.bl (decide (3 = j))])) := Same.upd n1
    have h1 : (upd H l1 (.lst [V.bl (decide (0 = j)), V.bl (decide (1 = j)), V.bl (decide (2 = j)), V.bl (decide (3 = j))])) l1 = _ := upd_same
    generalize upd H l1 (.lst [V.bl (decide (0 = j)), V.bl (decide (1 = j)), V.bl (decide (2 = j)), V.bl (decide (3 = j))]) = H1 at s1 h1
    replace hx := hx.same s1
    replace hf := HasD.same hf s1
    refine ⟨_, rfl, _, rfl, a, _, d, _, _, _, rfl, M.ex j hj, hx, hf, (fun _ r => r), M.kit j 4 hj (by decide), _, rfl, a, _, d, _, _, _, rfl, M.ex j hj, hx, hf, (fun _ r => r), M.kit j 5 hj (by decide), _, rfl, a, _, d, _, _, _, rfl, M.ex j hj, hx, hf, (fun _ r => r), M.kit j 6 hj (by decide), (by show 3 ≤ sizeLine; decide), fun l2 n2 => ?_⟩
    have s2 : Same H1 (upd H1 l2 (.lst [V.bl (decide (4 = j)), V.bl (decide (5 = j)), V.bl (decide (6 = j))])) := Same.upd n2
    have h2 : (upd H1 l2 (.lst [V.bl (decide (4 = j)), V.bl (decide (5 = j)), V.bl (decide (6 = j))])) l2 = _ := upd_same
    have h12 := s2 _ _ h1
    generalize upd H1 l2 (.lst [V.bl (decide (4 = j)), V.bl (decide (5 = j)), V.bl (decide (6 = j))]) = H2 at s2 h2 h12
    replace hx := hx.same s2
    replace hf := HasD.same hf s2
    refine ⟨l1, l2, _, _, rfl, rfl, h12, h2, by show 4 + 3 ≤ sizeLine; decide, fun l3 n3 => ?_⟩
    have s3 := Same.upd n3 (o := .lst ([V.bl (decide (0 = j)), V.bl (decide (1 = j)), V.bl (decide (2 = j)), V.bl (decide (3 = j))] ++ [V.bl (decide (4 = j)), V.bl (decide (5 = j)), V.bl (decide (6 = j))]))
    have h3 : (upd H2 l3 (.lst ([V.bl (decide (0 = j)), V.bl (decide (1 = j)), V.bl (decide (2 = j)), V.bl (decide (3 = j))] ++ [V.bl (decide (4 = j)), V.bl (decide (5 = j)), V.bl (decide (6 = j))]))) l3 = _ := upd_same
    generalize upd H2 l3 (.lst ([V.bl (decide (0 = j)), V.bl (decide (1 = j)), V.bl (decide (2 = j)), V.bl (decide (3 = j))] ++ [V.bl (decide (4 = j)), V.bl (decide (5 = j)), V.bl (decide (6 = j))])) = H3 at s3 h3
    replace hx := hx.same s3
    replace hf := HasD.same hf s3
    refine ⟨_, rfl, .inl ⟨rfl, _, SqL.of h3⟩, _, rfl, a, _, d, _, _, _, rfl, M.ex j hj, hx, hf, (fun _ r => r), M.kit j 7 hj (by decide), l3, _, _, rfl, rfl, h3, by show 7 < sizeLine; decide, ?_⟩
    have n3' : H l3 = none := (s1.trans s2).free n3
    have sA : Same H (upd H3 l3 (.lst ([V.bl (decide (0 = j)), V.bl (decide (1 = j)), V.bl (decide (2 = j)), V.bl (decide (3 = j))] ++ [V.bl (decide (4 = j)), V.bl (decide (5 = j)), V.bl (decide (6 = j))] ++ [V.bl (decide (7 = j))]))) := fun c o hc => by
      rw [upd_ne (ne_of_none hc n3')]
      exact s3 _ _ (s2 _ _ (s1 c o hc))
    have hx4 := hx0.same sA
    have hf4 := HasD.same hf0 sA
    have h4 : (upd H3 l3 (.lst ([V.bl (decide (0 = j)), V.bl (decide (1 = j)), V.bl (decide (2 = j)), V.bl (decide (3 = j))] ++ [V.bl (decide (4 = j)), V.bl (decide (5 = j)), V.bl (decide (6 = j))] ++ [V.bl (decide (7 = j))]))) l3 = _ := upd_same
    generalize upd H3 l3 (.lst ([V.bl (decide (0 = j)), V.bl (decide (1 = j)), V.bl (decide (2 = j)), V.bl (decide (3 = j))] ++ [V.bl (decide (4 = j)), V.bl (decide (5 = j)), V.bl (decide (6 = j))] ++ [V.bl (decide (7 = j))])) = H4 at sA h4 hx4 hf4
    clear hx hf
    have hx := hx4
    have hf := hf4
    refine ⟨_, rfl, _, rfl, a, _, d, _, _, _, rfl, M.ex j hj, hx, hf, (fun _ r => r), M.kit j 8 hj (by decide), _, rfl, a, _, d, _, _, _, rfl, M.ex j hj, hx, hf, (fun _ r => r), M.kit j 9 hj (by decide), _, rfl, a, _, d, _, _, _, rfl, M.ex j hj, hx, hf, (fun _ r => r), M.kit j 10 hj (by decide), _, rfl, a, _, d, _, _, _, rfl, M.ex j hj, hx, hf, (fun _ r => r), M.kit j 11 hj (by decide), (by show 4 ≤ sizeLine; decide), fun l4 n4 => ?_⟩
    have s4 : Same H4 (upd H4 l4 (.lst [V.bl (decide (8 = j)), V.bl (decide (9 = j)), V.bl (decide (10 = j)), V.bl (decide (11 = j))])) := Same.upd n4
    refine ⟨l3, l4, _, _, rfl, rfl, s4 _ _ h4, upd_same, by show 8 + 4 ≤ sizeLine; decide, fun l5 n5 => ?_⟩
    exact k l5 _ ((sA.trans s4).trans (Same.upd n5)) ((sA.trans s4).free n5) upd_same
end
end My

namespace My
open PySem PySem.Spec PyProof.Rows L2
/-- a class with its own __init__ -/
structure Ini (K : PySem.W.Frag) (C fI : Addr) (f : Str) : Prop where
  ox : OexC K C
  no : PySem.W.findIn K (.ref C) f = some none
  ini : PySem.W.findIn K (.ref C) "__init__" = some (some (.ref fI))
  ty : PySem.W.typeIn K (.ref fI) = some (.type "function")
  xf : XfC K C
section
variable {P : Program} {w : World} {K : PySem.W.Frag} {mg : Str → Option Value} {base : Heap}
theorem scCaught : FnScope ["most", "caught", "e"] ["most"] (defScope sCaught) := ⟨rfl, rfl, rfl, by decide +kernel, rfl, by decide +kernel, by decide +kernel⟩
theorem ok_caught {f D fI : Addr} {fd fdI : FuncData} {cs : List Addr} (F : Fun K "_law_is_caught" "_law_is_caught" sCaught f fd) (M : Cls K mg cs D) (I0 : Ini K (cs.getD 0 0) fI "most") (FI : FnOk P w K mg base CX0 1 fI fdI ["self", "most"] (spIni K (cs.getD 0 0) "most")) (bI : Binds K fdI ["self", "most"] [])
    (exm : PySem.W.exmOne K (.ref (cs.getD 0 0)) (.ref D) = some true) : FnOk P w K mg base CX0 3 f fd ["most"] spCaught := by
  refine F.ok scCaught (fun vs H Q E h => ?_) (fun cdv A outer s H vs Q E hr h => ?_)
  · obtain ⟨n, rfl, _⟩ := h
    rfl
  · obtain ⟨n, rfl, hn, k⟩ := h
    have hr2 : Room (1 + 1) _ := hr
    refine ⟨_, pss_cons (ps_set (i := 1) scCaught.nd rfl (Or.inl rfl) pe_non)
      (pss_cons (ps_try_keep (i := 2) rfl rfl rfl scCaught.nd rfl (by rfl) ⟨by rfl, by decide, .inl M.mD⟩
        (fun W pl xe tk ps => pss_one (ps_raise rfl tk (pmk_oex I0.ox I0.ini I0.ty FI hr2 bI .nil pass0 (by rfl) M.m0 (pa_cons (pv 0) pa_nil))))
        (fun a ob cls d pl z q => pss_one (ps_set (i := 1) scCaught.nd rfl (Or.inl rfl) (pv 2))))
      (pss_one (ps_ret (pe_and (pe_cmpR op_notN (pv 1) pe_non (nomark _)) (pe_one (pe_cmpR op_eq (pe_xk (pv 1)) (pv 0) (nomark _))))))), ?_⟩
    refine ⟨_, rfl, by show 1 ≤ 1000; decide, fun a na => ?_⟩
    refine ⟨a, .int n, rfl, I0.ox, I0.no, upd_same, .inl ⟨n, rfl, hn⟩, fun dx ndx dxa => ⟨rfl, dx, [("most", .int n)], upd_same, by rw [upd_ne dxa]; exact upd_same, by rw [upd_ne dxa] at ndx; exact ndx, exm, fun a2 na2 => ?_⟩⟩
    have ndx' : H dx = none := by rw [upd_ne dxa] at ndx; exact ndx
    refine ⟨_, rfl, ?_⟩
    have s1 : Same H (upd (del (upd (upd (upd H a (exo a (cs.getD 0 0) none)) dx (exd dx [("most", .int n)])) a (exo a (cs.getD 0 0) (some dx))) a) dx (.xd [("most", .int n)])) := fun b o hb => by
      have h1 : b ≠ dx := ne_of_none hb ndx'
      have h2 : b ≠ a := ne_of_none hb na
      rw [upd_ne h1, del_ne h2, upd_ne h2, upd_ne h1, upd_ne h2]
      exact hb
    have hdx : (upd (del (upd (upd (upd H a (exo a (cs.getD 0 0) none)) dx (exd dx [("most", .int n)])) a (exo a (cs.getD 0 0) (some dx))) a) dx (.xd [("most", .int n)])) dx = _ := upd_same
    generalize upd (del (upd (upd (upd H a (exo a (cs.getD 0 0) none)) dx (exd dx [("most", .int n)])) a (exo a (cs.getD 0 0) (some dx))) a) dx (.xd [("most", .int n)]) = H1 at na2 s1 hdx
    refine ⟨_, rfl, rfl, _, rfl, ifT (by rfl) ?_⟩
    refine ⟨_, rfl, a2, cs.getD 0 0, dx, _, .int n, rfl, I0.xf, I0.no, .inr (.inl upd_same), .inr (by rw [upd_ne (ne_of_none hdx na2)]; exact hdx), rfl, _, rfl, rfl, ?_⟩
    have := k _ (s1.trans (Same.upd na2 (o := ExK (.ref (cs.getD 0 0)) (some dx) a2)))
    simpa using this
end
end My

namespace My
open PySem PySem.Spec PyProof.Rows L2
abbrev sLaw : Stmt := topS 21
def spLaw (K : PySem.W.Frag) : Sp := fun vs H Q _ => ∃ (a : Addr) (ns : List Int), vs = [.ref a] ∧ SqL K H a (ns.map V.int) ∧ ns.length ≤ 63 ∧ ∀ H', Q (.bl true) H'
theorem _root_.L2.Room.repr {k : Nat} {A : Around} (r : Room k A) : A.units + 111 < cLine := by have := r.un; omega
/-! ### displays, by what stays -/
section
variable {X : Cx} {e : Expr} {es : List Expr} {t : TA} {te : TE} {pos : Pos}
theorem paMono (h : PA X es t) : PA X es (fun σ H R => ∃ S : List V → Hp → Prop, t σ H S ∧ ∀ vs H1, S vs H1 → R vs H1) :=
  ⟨fun pos pins s σ H Q I ⟨S, h1, h2⟩ => thn (h.run pos pins s σ H S I h1) fun us s1 ⟨vs, H1, I1, r, q⟩ => ⟨vs, H1, I1, r, h2 _ _ q⟩⟩
theorem peMono (h : PE X e te) : PE X e (fun σ H R => ∃ S : V → Hp → Prop, te σ H S ∧ ∀ v H1, S v H1 → R v H1) :=
  ⟨fun pins s σ H Q I ⟨S, h1, h2⟩ => thn (h.run pins s σ H S I h1) fun us s1 ⟨v, H1, I1, r, q⟩ => ⟨v, H1, I1, r, h2 _ _ q⟩⟩
def tLstS (t : TA) : TE := fun σ H Q => t σ H fun vs H1 => vs.length ≤ sizeLine ∧ ∀ q H2, Same H1 H2 → H1 q = none → H2 q = some (.lst vs) → Q (.ref q) H2
theorem pe_lstS (h : PA X es t) : PE X (.List es pos) (tLstS t) := PE.imp (pe_lst (paMono h)) fun _ _ _ q => ⟨_, q, fun _ _ z => ⟨z.1, fun p np => z.2 p _ (Same.upd np) np upd_same⟩⟩
def tOexS (C : Addr) (f : Str) (ta : TA) : TE := fun σ H Q => ta σ H fun vs H1 => ∃ y, vs = [y] ∧ Few y ∧ ∀ a dx H2, Same H1 H2 → IsX H2 a C (some dx) → HasF H2 dx [(f, y)] → Q (.ref a) H2
theorem pe_oexS {x : Str} {C fI : Addr} {q1 q3 : Pos} {fd : FuncData} {ps : List Str} {f : Str} (I : Ini X.K C fI f) (FI : FnOk X.prog X.w X.K X.mg X.base CX0 1 fI fd ps (spIni X.K C f)) (room : Room (1 + 1) X.A)
    (bd : Binds X.K fd ps []) (gx : Gl X x) (mx : X.mg x = some (.ref C)) (args : PA X (e :: es) t) (ndb : (x == ("__debug__" : Str)) = false := by decide)
    (h1 : starEach (e :: es) X.env = (false, eval e X.env) :: starEach es X.env := by rfl) (h2 : (backTo q3 (starEach es X.env)).any (·.1) = false := by rfl) : PE X (.Call (.Name x q1) (e :: es) [] q3) (tOexS C f t) :=
  PE.imp (pe_oexV I.ox I.ini I.ty FI room bd pass0 gx mx (paMono args) ndb h1 h2) fun _ _ _ q => ⟨_, q, fun vs H1 ⟨y, ev, few, k⟩ => by
    subst ev
    refine ⟨by show 1 ≤ 1000; decide, fun a na => ⟨a, y, rfl, I.ox, I.no, upd_same, few, fun dx ndx dxa => ⟨rfl, ?_⟩⟩⟩
    have nd : H1 dx = none := by rw [upd_ne dxa] at ndx; exact ndx
    refine k a dx _ (fun b o hb => ?_) (.inl upd_same) (.inl (by rw [upd_ne dxa]; exact upd_same))
    rw [upd_ne (ne_of_none hb na), upd_ne (ne_of_none hb nd), upd_ne (ne_of_none hb na)]
    exact hb⟩
def tExcS (C : Addr) (te : TE) : TE := fun σ H Q => te σ H fun _ H1 => ∀ a H2, Same H1 H2 → IsX H2 a C none → Q (.ref a) H2
theorem pe_excS {C : Addr} {x : Str} {p : Pos} (q : PySem.W.excIn X.K C [.type "ValueError", .type "Exception", .type "BaseException", .type "object"] "ValueError.__new__" = true) (gC : X.mg x = some (.ref C)) (kC : PySem.W.keepIn X.K (.ref C) = true) (hg : Gl X x)
    (he : PE X e te) (hs : starEach [e] X.env = (false, eval e X.env) :: starEach [] X.env := by rfl) (hdb : (x == ("__debug__" : Str)) = false := by decide) : PE X (.Call (.Name x p) [e] [] pos) (tExcS C te) :=
  PE.imp (pe_exc1 PySem.F.excBase_ValueError q gC kC hg (peMono he) hs hdb) fun _ _ _ q => ⟨_, q, fun _ H1 k a na => k a _ (Same.upd na) (.inr (.inr ⟨rfl, upd_same⟩))⟩
end
structure TxL (mg : Str → Option Value) : Prop where
  range : mg "range" = none
  isi : mg "isinstance" = none
  ve : mg "ValueError" = none
  enumerate : mg "enumerate" = none
  repr : mg "repr" = none
/-- the list of exceptions, so far -/
def Made (cs : List Addr) (H : Hp) (as : List Addr) : Prop := ∀ j, j < as.length → ∃ d, IsX H (as.getD j 0) (cs.getD j 0) d ∧ HasD H d
theorem Made.same {cs : List Addr} {H H' : Hp} {as : List Addr} (h : Made cs H as) (e : Same H H') : Made cs H' as := fun j hj => by
  obtain ⟨d, h1, h2⟩ := h j hj
  exact ⟨d, h1.same e, HasD.same h2 e⟩
theorem Made.snoc {cs : List Addr} {H : Hp} {as : List Addr} {a : Addr} {d : Option Addr} (h : Made cs H as) (x : IsX H a (cs.getD as.length 0) d) (hd : HasD H d) : Made cs H (as ++ [a]) := fun j hj => by
  rw [List.length_append] at hj
  simp only [List.length_cons, List.length_nil] at hj
  by_cases c : j < as.length
  · have e : (as ++ [a]).getD j 0 = as.getD j 0 := by simp [List.getD_eq_getElem?_getD, List.getElem?_append_left c]
    rw [e]; exact h j c
  · have ej : j = as.length := by omega
    subst ej
    have e : (as ++ [a]).getD as.length 0 = a := by simp [List.getD_eq_getElem?_getD]
    rw [e]; exact ⟨d, x, hd⟩
theorem Made.nil {cs : List Addr} {H : Hp} : Made cs H [] := fun j hj => absurd hj (Nat.not_lt_zero _)
theorem hasD_none {H : Hp} : HasD H none := fun _ z => nomatch z
theorem hasD_some {H : Hp} {dx : Addr} {fs : List (Str × V)} (h : HasF H dx fs) : HasD H (some dx) := fun dd z => by cases z; exact ⟨fs, h⟩
structure Fst (cs : List Addr) (m0 m1 pl : Int) (n0 n1 : Str) (H : Hp) (a0 a1 a2 a3 a4 : Addr) : Prop where
  ex : ∃ d0 d1 d2 d3 d4, IsX H a0 (cs.getD 0 0) (some d0) ∧ HasF H d0 [("most", .int m0)] ∧ IsX H a1 (cs.getD 1 0) (some d1) ∧ HasF H d1 [("most", .int m1)] ∧ IsX H a2 (cs.getD 2 0) (some d2) ∧ HasF H d2 [("name", .str n0)] ∧ IsX H a3 (cs.getD 3 0) (some d3) ∧ HasF H d3 [("name", .str n1)] ∧ IsX H a4 (cs.getD 4 0) (some d4) ∧ HasF H d4 [("place", .int pl)]
theorem HasF.same {H H' : Hp} {dx : Addr} {fs : List (Str × V)} (h : HasF H dx fs) (e : Same H H') : HasF H' dx fs := by
  rcases h with h | h
  · exact .inl (e _ _ h)
  · exact .inr (e _ _ h)
theorem Fst.same {cs : List Addr} {m0 m1 pl : Int} {n0 n1 : Str} {H H' : Hp} {a0 a1 a2 a3 a4 : Addr} (h : Fst cs m0 m1 pl n0 n1 H a0 a1 a2 a3 a4) (e : Same H H') : Fst cs m0 m1 pl n0 n1 H' a0 a1 a2 a3 a4 := by
  obtain ⟨d0, d1, d2, d3, d4, h0, g0, h1, g1, h2, g2, h3, g3, h4, g4⟩ := h.ex
  exact ⟨d0, d1, d2, d3, d4, h0.same e, g0.same e, h1.same e, g1.same e, h2.same e, g2.same e, h3.same e, g3.same e, h4.same e, g4.same e⟩
/-- all but lists stay -/
def SameX (H H' : Hp) : Prop := ∀ b o, H b = some o → (∀ xs, o ≠ .lst xs) → H' b = some o
theorem SameX.lst {H : Hp} {l : Addr} {xs ys : List V} (h : H l = some (.lst xs)) : SameX H (upd H l (.lst ys)) := fun b o hb n => by
  rw [upd_ne (fun z => by rw [z, h] at hb; cases hb; exact n _ rfl)]; exact hb
theorem IsX.sx {H H' : Hp} {a C : Addr} {d : Option Addr} (h : IsX H a C d) (e : SameX H H') : IsX H' a C d := by
  rcases h with h | h | ⟨q, h⟩
  · exact .inl (e _ _ h fun _ z => nomatch (show HO.ext _ = HO.lst _ from z))
  · exact .inr (.inl (e _ _ h fun _ z => nomatch (show HO.ext _ = HO.lst _ from z)))
  · exact .inr (.inr ⟨q, e _ _ h fun _ z => nomatch (show HO.ext _ = HO.lst _ from z)⟩)
theorem HasF.sx {H H' : Hp} {dx : Addr} {fs : List (Str × V)} (h : HasF H dx fs) (e : SameX H H') : HasF H' dx fs := by
  rcases h with h | h
  · exact .inl (e _ _ h fun _ z => nomatch (show HO.ext _ = HO.lst _ from z))
  · exact .inr (e _ _ h fun _ z => nomatch z)
theorem Made.sx {cs : List Addr} {H H' : Hp} {as : List Addr} (h : Made cs H as) (e : SameX H H') : Made cs H' as := fun j hj => by
  obtain ⟨d, h1, h2⟩ := h j hj
  exact ⟨d, h1.sx e, fun dd q => by obtain ⟨fs, f⟩ := h2 dd q; exact ⟨fs, f.sx e⟩⟩
theorem Fst.sx {cs : List Addr} {m0 m1 pl : Int} {n0 n1 : Str} {H H' : Hp} {a0 a1 a2 a3 a4 : Addr} (h : Fst cs m0 m1 pl n0 n1 H a0 a1 a2 a3 a4) (e : SameX H H') : Fst cs m0 m1 pl n0 n1 H' a0 a1 a2 a3 a4 := by
  obtain ⟨d0, d1, d2, d3, d4, h0, g0, h1, g1, h2, g2, h3, g3, h4, g4⟩ := h.ex
  exact ⟨d0, d1, d2, d3, d4, h0.sx e, g0.sx e, h1.sx e, g1.sx e, h2.sx e, g2.sx e, h3.sx e, g3.sx e, h4.sx e, g4.sx e⟩
theorem dp_bools {K : PySem.W.Frag} {H : Hp} (f : Nat → Bool) : ∀ l : List Nat, DpAll K H (l.map fun k => V.bl (f k)) (l.map fun k => PyData.bool (f k))
  | [] => .nil
  | _ :: l => .cons (.bl _) (dp_bools f l)
theorem eqvAll_bools (f : Nat → Bool) : ∀ l : List Nat, PyData.eqvAll (l.map fun k => PyData.bool (f k)) (l.map fun k => PyData.bool (f k)) = true
  | [] => rfl
  | k :: l => by
    show (PyData.eqv (.bool (f k)) (.bool (f k)) && PyData.eqvAll (l.map fun k => PyData.bool (f k)) (l.map fun k => PyData.bool (f k))) = true
    rw [eqvAll_bools f l]
    cases f k <;> rfl
theorem eqv_bools (f : Nat → Bool) (l : List Nat) : PyData.eqv (.list (l.map fun k => PyData.bool (f k))) (.list (l.map fun k => PyData.bool (f k))) = true := by
  simp only [PyData.eqv]
  exact eqvAll_bools f l
theorem shaped_bools (f : Nat → Bool) (l : List Nat) : SeqAt.shaped (.list (l.map fun k => PyData.bool (f k))) = true := by
  have h1 : PyData.canLayAll0 (l.map fun k => PyData.bool (f k)) = true := by
    induction l with
    | nil => simp [PyData.canLayAll0]
    | cons x r ih => simp only [List.map_cons, PyData.canLayAll0, PyData.canLay0, ih, Bool.and_true]
  have h2 : PyData.depthAll (l.map fun k => PyData.bool (f k)) = 0 := by
    clear h1
    induction l with
    | nil => simp only [List.map_nil, PyData.depthAll]
    | cons x r ih => simp only [List.map_cons, PyData.depthAll, PyData.depth, ih]; rfl
  unfold SeqAt.shaped
  simp only [PyData.canLay0, PyData.depth, h1, h2]
  rfl
theorem list5 (x y z u v : Str) : (listText [x, y, z, u, v]).length = x.length + y.length + z.length + u.length + v.length + 10 := by
  have e : listText [x, y, z, u, v] = (("[" : String) : Str) ++ (("" : String) : Str) ++ x ++ ((", " : String) : Str) ++ y ++ ((", " : String) : Str) ++ z ++ ((", " : String) : Str) ++ u ++ ((", " : String) : Str) ++ v ++ (("]" : String) : Str) := rfl
  have e1 : ((("[" : String) : Str)).length = 1 := by decide
  have e2 : ((("" : String) : Str)).length = 0 := by decide
  have e3 : (((", " : String) : Str)).length = 2 := by decide
  have e4 : ((("]" : String) : Str)).length = 1 := by decide
  rw [e]
  simp only [Str.length_append, e1, e2, e3, e4]
  omega
section
variable {P : Program} {w : World} {K : PySem.W.Frag} {mg : Str → Option Value} {base : Heap}
theorem scLaw : FnScope ["script", "pen", "turn", "most", "names", "place", "some", "at", "one", "due", "fields", "k"] ["script"] (defScope sLaw) := ⟨rfl, rfl, rfl, by decide +kernel, rfl, by decide +kernel, by decide +kernel⟩
theorem ok_law {f fO fT fNm fK fC D : Addr} {fd fdO fdT fdNm fdK fdC : FuncData} {cs : List Addr} (F : Fun K "law" "law" sLaw f fd) (T : TxL mg) (M : Cls K mg cs D) (ED : ExI K D) (kDV : PySem.W.kitOne K (.ref D) (.type "ValueError") = some true)
    (X1 : ∀ k, 5 ≤ k → k < 12 → PySem.W.excIn K (cs.getD k 0) [.type "ValueError", .type "Exception", .type "BaseException", .type "object"] "ValueError.__new__" = true) (KP : ∀ k, k < 12 → PySem.W.keepIn K (.ref (cs.getD k 0)) = true)
    (XD : PySem.W.excIn K D [.type "ValueError", .type "Exception", .type "BaseException", .type "object"] "ValueError.__new__" = true) (KD : PySem.W.keepIn K (.ref D) = true)
    {fI0 : Addr} {fdI0 : FuncData} (I0 : Ini K (cs.getD 0 0) fI0 "most") (FI0 : FnOk P w K mg base CX0 1 fI0 fdI0 ["self", "most"] (spIni K (cs.getD 0 0) "most")) (bI0 : Binds K fdI0 ["self", "most"] [])
    {fI1 : Addr} {fdI1 : FuncData} (I1 : Ini K (cs.getD 1 0) fI1 "most") (FI1 : FnOk P w K mg base CX0 1 fI1 fdI1 ["self", "most"] (spIni K (cs.getD 1 0) "most")) (bI1 : Binds K fdI1 ["self", "most"] [])
    {fI2 : Addr} {fdI2 : FuncData} (I2 : Ini K (cs.getD 2 0) fI2 "name") (FI2 : FnOk P w K mg base CX0 1 fI2 fdI2 ["self", "name"] (spIni K (cs.getD 2 0) "name")) (bI2 : Binds K fdI2 ["self", "name"] [])
    {fI3 : Addr} {fdI3 : FuncData} (I3 : Ini K (cs.getD 3 0) fI3 "name") (FI3 : FnOk P w K mg base CX0 1 fI3 fdI3 ["self", "name"] (spIni K (cs.getD 3 0) "name")) (bI3 : Binds K fdI3 ["self", "name"] [])
    {fI4 : Addr} {fdI4 : FuncData} (I4 : Ini K (cs.getD 4 0) fI4 "place") (FI4 : FnOk P w K mg base CX0 1 fI4 fdI4 ["self", "place"] (spIni K (cs.getD 4 0) "place")) (bI4 : Binds K fdI4 ["self", "place"] [])
    (FO : Fun K "_law_open" "_law_open" sOpen fO fdO) (GO : FnOk P w K mg base CX0 1 fO fdO ["script"] (spOpen K)) (bO : Binds K fdO ["script"] []) (gO : mg "_law_open" = some (.ref fO))
    (FT : Fun K "_law_take" "_law_take" sTake fT fdT) (GT : FnOk P w K mg base CX0 2 fT fdT ["pen", "many"] spTakeC) (bT : Binds K fdT ["pen", "many"] []) (gT : mg "_law_take" = some (.ref fT))
    (FNm : Fun K "_law_names" "_law_names" sNames fNm fdNm) (GNm : FnOk P w K mg base CX0 3 fNm fdNm ["pen", "many"] spNames) (bNm : Binds K fdNm ["pen", "many"] []) (gNm : mg "_law_names" = some (.ref fNm))
    (FK : Fun K "_law_kinds" "_law_kinds" sKinds fK fdK) (GK : FnOk P w K mg base CX0 1 fK fdK ["one"] (spKinds cs)) (bK : Binds K fdK ["one"] []) (gK : mg "_law_kinds" = some (.ref fK))
    (FC : Fun K "_law_is_caught" "_law_is_caught" sCaught fC fdC) (GC : FnOk P w K mg base CX0 3 fC fdC ["most"] spCaught) (bC : Binds K fdC ["most"] []) (gC : mg "_law_is_caught" = some (.ref fC)) :
    AtTop P w K mg base f fd ["script"] (spLaw K) := by
  refine top_ok (k := 4) F scLaw (fun vs H Q E h => ?_) ⟨rfl, by decide, by decide⟩ (fun cdv out s H vs Q E hr h => ?_)
  · obtain ⟨a, ns, rfl, _⟩ := h
    rfl
  · obtain ⟨a, ns0, rfl, hS, hlen, k⟩ := h
    have hr1 : Room 1 _ := hr.mono (by decide)
    have hr2 : Room (1 + 1) _ := hr.mono (by decide)
    have hr3 : Room 3 _ := hr.mono (by decide)
    refine ⟨_, (pss_cons (ps_set (i := 1) scLaw.nd rfl (Or.inl rfl) (pe_call GO hr1 (by rfl) gO FO.kp bO .nil pass0 (pa_cons (pv 0) pa_nil)))
      (pss_cons (ps_for PassesOwn.never rfl (pi_range1 (by rfl) T.range (pa_cons pe_int pa_nil)) (pg_name (i := 2) scLaw.nd rfl (Or.inl rfl)) (pss_cons (ps_set (i := 3) scLaw.nd rfl (Or.inl rfl) (pe_lstS (pa_cons (pe_call GT hr2 (by rfl) gT FT.kp bT .nil pass0 (pa_cons (pv 1) (pa_cons pe_int pa_nil))) (pa_cons (pe_call GT hr2 (by rfl) gT FT.kp bT .nil pass0 (pa_cons (pv 1) (pa_cons (pe_op op_pow pe_int pe_int) pa_nil))) pa_nil))))
      (pss_cons (ps_set (i := 4) scLaw.nd rfl (Or.inl rfl) (pe_call GNm hr3 (by rfl) gNm FNm.kp bNm .nil pass0 (pa_cons (pv 1) (pa_cons pe_int pa_nil))))
      (pss_cons (ps_set (i := 5) scLaw.nd rfl (Or.inl rfl) (pe_call GT hr2 (by rfl) gT FT.kp bT .nil pass0 (pa_cons (pv 1) (pa_cons pe_int pa_nil))))
      (C8.pss_cut (ps_set (i := 6) scLaw.nd rfl (Or.inl rfl) (pe_lstS (pa_cons (pe_oexS I0 FI0 hr2 bI0 (by rfl) M.m0 (pa_cons (pe_ix ix_list (pv 3) pe_int (fun _ _ => rfl)) pa_nil)) (pa_cons (pe_oexS I1 FI1 hr2 bI1 (by rfl) M.m1 (pa_cons (pe_ix ix_list (pv 3) pe_int (fun _ _ => rfl)) pa_nil)) (pa_cons (pe_oexS I2 FI2 hr2 bI2 (by rfl) M.m2 (pa_cons (pe_ix ix_list (pv 4) pe_int (fun _ _ => rfl)) pa_nil)) (pa_cons (pe_oexS I3 FI3 hr2 bI3 (by rfl) M.m3 (pa_cons (pe_ix ix_list (pv 4) pe_int (fun _ _ => rfl)) pa_nil)) (pa_cons (pe_oexS I4 FI4 hr2 bI4 (by rfl) M.m4 (pa_cons (pv 5) pa_nil)) (pa_cons (pe_excS (X1 5 (by decide) (by decide)) M.m5 (KP 5 (by decide)) (by rfl) (pe_ix ix_list (pv 4) pe_int (fun _ _ => rfl))) pa_nil))))))))
      (C8.pss_cut (ps_set (i := 6) scLaw.nd rfl (Or.inl rfl) (pe_op op_cat (pv 6) (pe_lstS (pa_cons (pe_excS (X1 6 (by decide) (by decide)) M.m6 (KP 6 (by decide)) (by rfl) (pe_ix ix_list (pv 4) pe_int (fun _ _ => rfl))) (pa_cons (pe_excS (X1 7 (by decide) (by decide)) M.m7 (KP 7 (by decide)) (by rfl) (pe_ix ix_list (pv 4) pe_int (fun _ _ => rfl))) (pa_cons (pe_excS (X1 8 (by decide) (by decide)) M.m8 (KP 8 (by decide)) (by rfl) pe_str) (pa_cons (pe_excS (X1 9 (by decide) (by decide)) M.m9 (KP 9 (by decide)) (by rfl) pe_str) (pa_cons (pe_excS (X1 10 (by decide) (by decide)) M.m10 (KP 10 (by decide)) (by rfl) (pe_ix ix_list (pv 4) pe_int (fun _ _ => rfl))) pa_nil))))))))
      (C8.pss_cut (ps_expr (pe_bm PySem.F.plainAttrs_list PySem.F.slot_list_append PySem.F.type_list_append mt_append (pv 6) (pa_cons (pe_excS (X1 11 (by decide) (by decide)) M.m11 (KP 11 (by decide)) (by rfl) (pe_ix ix_list (pv 4) pe_int (fun _ _ => rfl))) pa_nil)))
      (C8.pss_cut (ps_for PassesOwn.never rfl (pi_enum (by rfl) T.enumerate (pa_cons (pv 6) pa_nil)) (pg_tup (by rfl) (pgs_cons (pg_name (i := 7) scLaw.nd rfl (Or.inr rfl)) (pgs_cons (pg_name (i := 8) scLaw.nd rfl (Or.inl rfl)) pgs_nil))) (pss_cons (ps_setLc (i := 9) (own := [("k", 11)]) (g := gName 11) (tt := tYes) rfl scLaw.nd rfl (by rfl) (sw_true (by rfl) (by rfl) (by rfl) (by rfl)) (pi_range1 (by rfl) T.range (pa_cons pe_int pa_nil)) (blkOk_by (N := ["script", "pen", "turn", "most", "names", "place", "some", "at", "one", "due", "fields", "k"]) (sc := defScope sLaw) (by decide +kernel)) (fun _ _ _ _ _ => (pg_name (i := 11) scLaw.nd rfl (Or.inl rfl))) (fun _ _ _ _ _ => pts_nil) (fun _ _ _ _ _ => (pe_cmpR op_eq (pv 11) (pv 7) (nomark _)))) (pss_one (ps_if (PW.pt (pw_or (pt_cmpR (op_neD hr.units) (pe_call GK hr1 (by rfl) gK FK.kp bK .nil pass0 (pa_cons (pv 8) pa_nil)) (pv 9) (nomark _)) (pw_or (pt_not (pt_val (pe_callB call_isK (by rfl) T.isi boot_isinstance (pa_cons (pv 8) (pa_cons (pe_glob (v := .ref D) (by rfl) M.mD rfl) pa_nil))))) (pw_or1 (pt_not (pt_val (pe_callB call_isK (by rfl) T.isi boot_isinstance (pa_cons (pv 8) (pa_cons (pe_bltn (v := .ty "ValueError") (by rfl) T.ve PyProof.Rows.Boot.«ValueError» rfl) pa_nil))))))))) (pss_one (ps_ret pe_bl)) pss_nil))))
      (C8.pss_cut (ps_if (pt_not (pt_val (pe_call GC hr3 (by rfl) gC FC.kp bC .nil pass0 (pa_cons (pe_ix ix_list (pv 3) pe_int (fun _ _ => rfl)) pa_nil)))) (pss_one (ps_ret pe_bl)) pss_nil)
      (C8.pss_cut (ps_set (i := 10) scLaw.nd rfl (Or.inl rfl) (pe_lstS (pa_cons (pe_xk (pe_ix ix_list (pv 6) pe_int (fun _ _ => rfl))) (pa_cons (pe_xk (pe_ix ix_list (pv 6) pe_int (fun _ _ => rfl))) (pa_cons (pe_xk (pe_ix ix_list (pv 6) pe_int (fun _ _ => rfl))) (pa_cons (pe_xk (pe_ix ix_list (pv 6) pe_int (fun _ _ => rfl))) (pa_cons (pe_xk (pe_ix ix_list (pv 6) pe_int (fun _ _ => rfl))) pa_nil)))))))
      (pss_one (ps_if (PW.pt (pw_or (pt_cmpR op_ne (pe_callB (cr_repr rfl hr.repr) (by rfl) T.repr boot_repr (pa_cons (pv 10) pa_nil)) (pe_callB (cr_repr rfl hr.repr) (by rfl) T.repr boot_repr (pa_cons (pe_op op_cat (pe_op op_cat (pv 3) (pv 4)) (pe_lstS (pa_cons (pv 5) pa_nil))) pa_nil)) (nomark _)) (pw_or1 (pt_not (pt_val (pe_callB call_isK (by rfl) T.isi boot_isinstance (pa_cons (pe_excS XD M.mD KD (by rfl) pe_str) (pa_cons (pe_bltn (v := .ty "ValueError") (by rfl) T.ve PyProof.Rows.Boot.«ValueError» rfl) pa_nil)))))))) (pss_one (ps_ret pe_bl)) pss_nil))))))))))))
      (pss_one (ps_ret pe_bl)))), ?_⟩
    refine ⟨_, rfl, a, ns0, rfl, hS, hlen, fun p H1 np s1 P1 => ?_⟩
    obtain ⟨pc, C1⟩ := P1.c
    refine ⟨3, rfl, by decide, by decide, for_range (n := 3) (fun i σ H2 => ∃ (x2 x3 x4 x5 x6 x7 x8 x9 x10 x11 : Option V), σ = [some (.ref a), some (.ref p), x2, x3, x4, x5, x6, x7, x8, x9, x10, x11] ∧ PenC H2 p pc (100 * i)) ⟨none, none, none, none, none, none, none, none, none, none, rfl, C1⟩ ?_ ?_⟩
    · rintro i σ H2 hi ⟨x2, x3, x4, x5, x6, x7, x8, x9, x10, x11, rfl, C2⟩
      refine ⟨_, rfl, p, pc, 10, _, rfl, by decide, by decide, C2, by omega, fun m0 H3 m00 m01 b3 C3 => ?_⟩
      have ten : ((10 : Int) ^ (30 : Int).toNat).natAbs < 2 ^ 1900 := by decide
      have tpos : (0 : Int) < (10 : Int) ^ (30 : Int).toNat := by decide
      refine ⟨_, rfl, _, _, rfl, rfl, ⟨by decide, by decide, by decide⟩, p, pc, _, _, rfl, tpos, Nat.lt_of_lt_of_le ten (Nat.pow_le_pow_right (by decide) (by decide)), C3, by omega, fun m1 H4 m10 m11 b4 C4 => ?_⟩
      refine ⟨(by show 2 ≤ sizeLine; decide), fun lm H5 s5 nlm hlm => ?_⟩
      have lmp : lm ≠ p := pen_not C4.any nlm
      have C5 := C4.same s5 (Nat.le_refl _)
      refine ⟨_, rfl, p, pc, 2, _, rfl, by decide, C5, by omega, fun ln ns H6 nok nln b6 C6 hln => ?_⟩
      have lnp : ln ≠ p := pen_not C5.any nln
      obtain ⟨n0, n1, rfl⟩ : ∃ n0 n1, ns = [n0, n1] := by
        have := nok.len
        match ns, this with
        | [u, v], _ => exact ⟨u, v, rfl⟩
      have ln0 : n0.length ≤ 100 := by have := (nok.ok n0 List.mem_cons_self).hi; omega
      have ln1 : n1.length ≤ 100 := by have := (nok.ok n1 (List.mem_cons_of_mem _ List.mem_cons_self)).hi; omega
      refine ⟨_, rfl, p, pc, 2000, _, rfl, by decide, by decide, C6, by omega, fun pl H7 p0 p1 b7 C7 => ?_⟩
      have hlm := b7 _ _ lmp (b6 _ _ lmp hlm)
      have hln := b7 _ _ lnp hln
      have lgs : ∀ {z : Int}, z.natAbs < 2 ^ 1900 → z.natAbs.log2 < 1920 := fun h => Nat.lt_trans (PySem.Flt.log2_lt_of (k := 1900) (by decide) h) (by decide)
      have lg0 : m0.natAbs.log2 < 1920 := lgs (Nat.lt_of_le_of_lt (show m0.natAbs ≤ 10 by omega) (by decide))
      have lg1 : m1.natAbs.log2 < 1920 := lgs (Nat.lt_of_le_of_lt (show m1.natAbs ≤ ((10 : Int) ^ (30 : Int).toNat).natAbs by omega) ten)
      have lgp : pl.natAbs.log2 < 1920 := lgs (Nat.lt_of_le_of_lt (show pl.natAbs ≤ 2000 by omega) (by decide))
      have smH7 : Same H7 H7 := Same.refl _
      refine ⟨(fun σ H => ∃ (sm a0 a1 a2 a3 a4 a5 : Addr) (y2 : Option V), σ = [some (.ref a), some (.ref p), y2, some (.ref lm), some (.ref ln), some (.int pl), some (.ref sm), x7, x8, x9, x10, x11] ∧ Same H7 H ∧ H sm = some (.lst [.ref a0, .ref a1, .ref a2, .ref a3, .ref a4, .ref a5]) ∧ H7 sm = none ∧ Made cs H [a0, a1, a2, a3, a4, a5] ∧ Fst cs m0 m1 pl n0 n1 H a0 a1 a2 a3 a4), ?_, ?_⟩
      · skip
        refine ⟨_, rfl, lm, _, 0, .int m0, rfl, rfl, SqL.of (smH7 _ _ hlm), atI_nat (j := 0) rfl, .int m0, rfl, .inl ⟨_, rfl, lg0⟩, fun a0 d0 K0 s0 x0 f0 => ?_⟩
        have smK0 := smH7.trans s0
        refine ⟨_, rfl, lm, _, 1, .int m1, rfl, rfl, SqL.of (smK0 _ _ hlm), atI_nat (j := 1) rfl, .int m1, rfl, .inl ⟨_, rfl, lg1⟩, fun a1 d1 K1 s1 x1 f1 => ?_⟩
        have smK1 := smK0.trans s1
        refine ⟨_, rfl, ln, _, 0, .str n0, rfl, rfl, SqL.of (smK1 _ _ hln), atI_nat (j := 0) rfl, .str n0, rfl, .inr ⟨_, rfl, ln0⟩, fun a2 d2 K2 s2 x2 f2 => ?_⟩
        have smK2 := smK1.trans s2
        refine ⟨_, rfl, ln, _, 1, .str n1, rfl, rfl, SqL.of (smK2 _ _ hln), atI_nat (j := 1) rfl, .str n1, rfl, .inr ⟨_, rfl, ln1⟩, fun a3 d3 K3 s3 x3 f3 => ?_⟩
        have smK3 := smK2.trans s3
        refine ⟨_, rfl, .int pl, rfl, .inl ⟨_, rfl, lgp⟩, fun a4 d4 K4 s4 x4 f4 => ?_⟩
        have smK4 := smK3.trans s4
        refine ⟨_, rfl, ln, _, 0, .str n0, rfl, rfl, SqL.of (smK4 _ _ hln), atI_nat (j := 0) rfl, fun a5 K5 s5 x5 => ?_⟩
        have smK5 := smK4.trans s5
        refine ⟨(by show 6 ≤ sizeLine; decide), fun sm K s nsm hsm => ?_⟩
        have y0 := x0.same (((((s1.trans s2).trans s3).trans s4).trans s5).trans s)
        have g0 := f0.same (((((s1.trans s2).trans s3).trans s4).trans s5).trans s)
        have y1 := x1.same ((((s2.trans s3).trans s4).trans s5).trans s)
        have g1 := f1.same ((((s2.trans s3).trans s4).trans s5).trans s)
        have y2 := x2.same (((s3.trans s4).trans s5).trans s)
        have g2 := f2.same (((s3.trans s4).trans s5).trans s)
        have y3 := x3.same ((s4.trans s5).trans s)
        have g3 := f3.same ((s4.trans s5).trans s)
        have y4 := x4.same (s5.trans s)
        have g4 := f4.same (s5.trans s)
        have y5 := x5.same s
        refine ⟨sm, a0, a1, a2, a3, a4, a5, _, rfl, smK5.trans s, hsm, smK5.free nsm, ?_, ⟨d0, d1, d2, d3, d4, y0, g0, y1, g1, y2, g2, y3, g3, y4, g4⟩⟩
        exact (((((Made.nil.snoc (as := []) y0 (hasD_some g0)).snoc (as := [a0]) y1 (hasD_some g1)).snoc (as := [a0, a1]) y2 (hasD_some g2)).snoc (as := [a0, a1, a2]) y3 (hasD_some g3)).snoc (as := [a0, a1, a2, a3]) y4 (hasD_some g4)).snoc (as := [a0, a1, a2, a3, a4]) y5 hasD_none
      rintro σ KA ⟨sm, a0, a1, a2, a3, a4, a5, y2, rfl, smKA, hsm, nsm, MA, FA⟩
      refine ⟨(fun σ H => ∃ (sm a6 a7 a8 a9 a10 : Addr), σ = [some (.ref a), some (.ref p), y2, some (.ref lm), some (.ref ln), some (.int pl), some (.ref sm), x7, x8, x9, x10, x11] ∧ Same H7 H ∧ H sm = some (.lst [.ref a0, .ref a1, .ref a2, .ref a3, .ref a4, .ref a5, .ref a6, .ref a7, .ref a8, .ref a9, .ref a10]) ∧ H7 sm = none ∧ Made cs H [a0, a1, a2, a3, a4, a5, a6, a7, a8, a9, a10] ∧ Fst cs m0 m1 pl n0 n1 H a0 a1 a2 a3 a4), ?_, ?_⟩
      · refine ⟨_, rfl, ?_⟩
        refine ⟨_, rfl, ln, _, 0, .str n0, rfl, rfl, SqL.of (smKA _ _ hln), atI_nat (j := 0) rfl, fun a6 K6 s6 x6 => ?_⟩
        have smK6 := smKA.trans s6
        refine ⟨_, rfl, ln, _, 1, .str n1, rfl, rfl, SqL.of (smK6 _ _ hln), atI_nat (j := 1) rfl, fun a7 K7 s7 x7 => ?_⟩
        have smK7 := smK6.trans s7
        refine fun a8 K8 s8 x8 => ?_
        have smK8 := smK7.trans s8
        refine fun a9 K9 s9 x9 => ?_
        have smK9 := smK8.trans s9
        refine ⟨_, rfl, ln, _, 0, .str n0, rfl, rfl, SqL.of (smK9 _ _ hln), atI_nat (j := 0) rfl, fun a10 K10 s10 x10 => ?_⟩
        have smK10 := smK9.trans s10
        refine ⟨(by show 5 ≤ sizeLine; decide), fun l2 K s nl2 hl2 => ?_⟩
        have sAK : Same KA K := (((((s6.trans s7).trans s8).trans s9).trans s10).trans s)
        refine ⟨sm, l2, _, _, rfl, rfl, sAK _ _ hsm, hl2, by show 6 + 5 ≤ sizeLine; decide, fun l3 nl3 => ?_⟩
        have sz : Same K (upd K l3 (.lst [.ref a0, .ref a1, .ref a2, .ref a3, .ref a4, .ref a5, .ref a6, .ref a7, .ref a8, .ref a9, .ref a10])) := Same.upd nl3
        have y6 := x6.same (((((s7.trans s8).trans s9).trans s10).trans s).trans sz)
        have y7 := x7.same ((((s8.trans s9).trans s10).trans s).trans sz)
        have y8 := x8.same (((s9.trans s10).trans s).trans sz)
        have y9 := x9.same ((s10.trans s).trans sz)
        have y10 := x10.same (s.trans sz)
        refine ⟨l3, a6, a7, a8, a9, a10, rfl, (smKA.trans sAK).trans sz, upd_same, (smKA.trans sAK).free nl3, ?_, FA.same (sAK.trans sz)⟩
        exact (((((MA.same (sAK.trans sz)).snoc (as := [a0, a1, a2, a3, a4, a5]) y6 hasD_none).snoc (as := [a0, a1, a2, a3, a4, a5, a6]) y7 hasD_none).snoc (as := [a0, a1, a2, a3, a4, a5, a6, a7]) y8 hasD_none).snoc (as := [a0, a1, a2, a3, a4, a5, a6, a7, a8]) y9 hasD_none).snoc (as := [a0, a1, a2, a3, a4, a5, a6, a7, a8, a9]) y10 hasD_none
      rintro σ KB ⟨sm, a6, a7, a8, a9, a10, rfl, smKB, hsm, nsm, MB, FB⟩
      refine ⟨(fun σ H => ∃ (a11 : Addr), σ = [some (.ref a), some (.ref p), y2, some (.ref lm), some (.ref ln), some (.int pl), some (.ref sm), x7, x8, x9, x10, x11] ∧ Same H7 H ∧ H sm = some (.lst [.ref a0, .ref a1, .ref a2, .ref a3, .ref a4, .ref a5, .ref a6, .ref a7, .ref a8, .ref a9, .ref a10, .ref a11]) ∧ Made cs H [a0, a1, a2, a3, a4, a5, a6, a7, a8, a9, a10, a11] ∧ Fst cs m0 m1 pl n0 n1 H a0 a1 a2 a3 a4), ?_, ?_⟩
      · refine ⟨_, rfl, .inl ⟨rfl, _, SqL.of hsm⟩, ?_⟩
        refine ⟨_, rfl, ln, _, 1, .str n1, rfl, rfl, SqL.of (smKB _ _ hln), atI_nat (j := 1) rfl, fun a11 K11 s11 x11 => ?_⟩
        have smK11 := smKB.trans s11
        refine ⟨sm, _, _, rfl, rfl, s11 _ _ hsm, by show 11 < sizeLine; decide, ?_⟩
        have sx : SameX K11 (upd K11 sm (.lst ([.ref a0, .ref a1, .ref a2, .ref a3, .ref a4, .ref a5, .ref a6, .ref a7, .ref a8, .ref a9, .ref a10] ++ [.ref a11]))) := SameX.lst (s11 _ _ hsm)
        have MB11 := (MB.same s11).snoc (as := [a0, a1, a2, a3, a4, a5, a6, a7, a8, a9, a10]) x11 hasD_none
        refine ⟨a11, rfl, fun b o hb => ?_, upd_same, MB11.sx sx, (FB.same s11).sx sx⟩
        rw [upd_ne (ne_of_none hb nsm)]
        exact smK11 b o hb
      rintro σ KC ⟨a11, rfl, smKC, hsm, MC, FC'⟩
      have hsm' : KC sm = some (.lst ([a0, a1, a2, a3, a4, a5, a6, a7, a8, a9, a10, a11].map V.ref)) := hsm
      have len12 : [a0, a1, a2, a3, a4, a5, a6, a7, a8, a9, a10, a11].length = 12 := rfl
      generalize hasl : [a0, a1, a2, a3, a4, a5, a6, a7, a8, a9, a10, a11] = as at hsm' MC len12
      refine ⟨(fun σ H => ∃ (y7 y8 y9 : Option V), σ = [some (.ref a), some (.ref p), y2, some (.ref lm), some (.ref ln), some (.int pl), some (.ref sm), y7, y8, y9, x10, x11] ∧ Same KC H), ?_, ?_⟩
      · refine ⟨_, rfl, sm, _, rfl, SqL.of hsm', for_it (walk_enum (K := K) (a := sm) (xs := as.map V.ref)) (fun j σ Hi => (∃ (y7 y8 y9 : Option V), σ = [some (.ref a), some (.ref p), y2, some (.ref lm), some (.ref ln), some (.int pl), some (.ref sm), y7, y8, y9, x10, x11]) ∧ Same KC Hi) ⟨⟨_, _, _, rfl⟩, Same.refl _⟩ (fun j σ Hi _ q => SqL.of (q.2 _ _ hsm')) ?_ ?_⟩
        · rintro j x σ Hi Hj hj ⟨⟨y7, y8, y9, rfl⟩, si⟩ ⟨Tt, y, z, rfl, hT, rfl, ey, ez⟩
          rw [List.length_map, len12] at hj
          obtain rfl : V.int ((j : Nat) : Int) = y := Option.some.inj ey
          have ez' : (as.map V.ref)[j]? = some z := ez
          have ez2 : z = .ref (as.getD j 0) := by
            rw [List.getElem?_map, List.getElem?_eq_getElem (by omega)] at ez'
            rw [List.getD_eq_getElem?_getD, List.getElem?_eq_getElem (by omega)]
            exact (Option.some.inj ez').symm
          subst ez2
          refine ⟨Tt, _, rfl, SqT.of upd_same, rfl, _, _, rfl, _, _, rfl, rfl, ?_⟩
          have sT : Same Hi (upd Hi Tt (.tup [.int (j : Nat), .ref (as.getD j 0)])) := Same.upd hT
          have sm1 := si.trans sT
          generalize upd Hi Tt (.tup [.int (j : Nat), .ref (as.getD j 0)]) = Hm at sm1
          refine ⟨12, rfl, by decide, by decide, fun E nE => ?_⟩
          refine lc_it (walk_range (lo := 0) (n := 12)) (fun t Hn => Same Hm Hn ∧ Hn E = some (.lst ((List.range t).map fun k => V.bl (decide (k = j))))) ⟨Same.upd nE, upd_same⟩ (fun _ _ _ _ => trivial) ?_ ?_
          · rintro t x Hn Ho ht ⟨st, hE⟩ ⟨rfl, hx⟩
            replace hx : x = V.int t := hx.trans (by show V.int (0 + (t : Int)) = _; rw [Int.zero_add])
            subst hx
            refine ⟨rfl, ?_⟩
            refine ⟨_, rfl, _, rfl, rfl, _, hE, by rw [List.length_map, List.length_range, sizeLine_eq]; omega, fun c o hc => ?_, ?_⟩
            · rw [upd_ne (ne_of_none hc nE)]
              exact st c o hc
            · rw [upd_same, List.range_succ, List.map_append]
              have : decide (V.int (t : Int) = V.int (j : Int)) = decide (t = j) := decide_eq_decide.mpr ⟨fun h => by have := V.int.inj h; omega, fun h => by rw [h]⟩
              rw [this]
              rfl
          · rintro Hn ⟨st, hE⟩
            have sn := sm1.trans st
            obtain ⟨d, ix, hd⟩ := MC j (by omega)
            refine ⟨_, rfl, as.getD j 0, j, d, rfl, hj, ix.same sn, HasD.same hd sn, fun l Hl sl nl hl => ?_⟩
            refine ⟨_, rfl, .list ((List.range 12).map fun k => .bool (decide (k = j))), .list ((List.range 12).map fun k => .bool (decide (k = j))), .lst (SqL.of hl) (dp_bools _ _), .lst (SqL.of (sl _ _ hE)) (dp_bools _ _), shaped_bools _ _, shaped_bools _ _, _, rfl, ?_⟩
            rw [eqv_bools]
            refine iteF ?_
            have sl2 := sn.trans sl
            refine ⟨_, rfl, as.getD j 0, _, d, _, _, _, rfl, M.ex j hj, ix.same sl2, HasD.same hd sl2, (fun _ r => r), M.kitD j hj, _, rfl, iteF ?_⟩
            refine ⟨_, rfl, as.getD j 0, _, d, _, _, _, rfl, M.ex j hj, ix.same sl2, HasD.same hd sl2, (fun _ r => r), M.kitV j hj, _, rfl, iteF ?_⟩
            exact ⟨⟨_, _, _, rfl⟩, sl2⟩
        · rintro σ Hi ⟨⟨y7, y8, y9, rfl⟩, si⟩
          exact ⟨_, _, _, rfl, si⟩
      rintro σ KD' ⟨y7, y8, y9, rfl, sD⟩
      refine ⟨(fun σ H => σ = [some (.ref a), some (.ref p), y2, some (.ref lm), some (.ref ln), some (.int pl), some (.ref sm), y7, y8, y9, x10, x11] ∧ Same KC H), ?_, ?_⟩
      · refine ⟨_, rfl, lm, _, 0, .int m0, rfl, rfl, SqL.of (sD _ _ (smKC _ _ hlm)), atI_nat (j := 0) rfl, m0, rfl, lg0, fun H' s' => ?_⟩
        exact ⟨_, rfl, iteF ⟨rfl, sD.trans s'⟩⟩
      rintro σ KE ⟨rfl, sE⟩
      obtain ⟨d0, d1, d2, d3, d4, h0, g0, h1, g1, h2, g2, h3, g3, h4, g4⟩ := (FC'.same sE).ex
      have hsE := sE _ _ hsm
      refine ⟨(fun σ H => ∃ fl, σ = [some (.ref a), some (.ref p), y2, some (.ref lm), some (.ref ln), some (.int pl), some (.ref sm), y7, y8, y9, some (.ref fl), x11] ∧ Same KC H ∧ H fl = some (.lst [.int m0, .int m1, .str n0, .str n1, .int pl])), ?_, ?_⟩
      · refine ⟨_, rfl, sm, _, 0, .ref a0, rfl, rfl, SqL.of hsE, atI_nat (j := 0) rfl, a0, _, d0, _, _, rfl, I0.xf, I0.no, h0, g0, rfl, _, rfl, sm, _, 1, .ref a1, rfl, rfl, SqL.of hsE, atI_nat (j := 1) rfl, a1, _, d1, _, _, rfl, I1.xf, I1.no, h1, g1, rfl, _, rfl, sm, _, 2, .ref a2, rfl, rfl, SqL.of hsE, atI_nat (j := 2) rfl, a2, _, d2, _, _, rfl, I2.xf, I2.no, h2, g2, rfl, _, rfl, sm, _, 3, .ref a3, rfl, rfl, SqL.of hsE, atI_nat (j := 3) rfl, a3, _, d3, _, _, rfl, I3.xf, I3.no, h3, g3, rfl, _, rfl, sm, _, 4, .ref a4, rfl, rfl, SqL.of hsE, atI_nat (j := 4) rfl, a4, _, d4, _, _, rfl, I4.xf, I4.no, h4, g4, rfl, (by show 5 ≤ sizeLine; decide), fun fl H s nfl hfl => ⟨fl, rfl, sE.trans s, hfl⟩⟩
      rintro σ KF ⟨fl, rfl, sF, hfl⟩
      have hlmF := sF _ _ (smKC _ _ hlm)
      have hlnF := sF _ _ (smKC _ _ hln)
      have shw : (PyData.list [.int m0, .int m1, .str n0, .str n1, .int pl]).showable = true := by
        simp only [PyData.showable, PyData.showableAll, decide_eq_true lg0, decide_eq_true lg1, decide_eq_true lgp, Bool.and_self]
      have hmd : (PyData.list [.int m0, .int m1, .str n0, .str n1, .int pl]).hasDict = true → hasList (PyData.list [.int m0, .int m1, .str n0, .str n1, .int pl]) = false := fun z => by
        simp [PyData.hasDict, PyData.hasDictAll] at z
      have dpt : (PyData.list [.int m0, .int m1, .str n0, .str n1, .int pl]).depth ≤ 100 := by simp only [PyData.depth, PyData.depthAll]; omega
      have szt : (PyData.list [.int m0, .int m1, .str n0, .str n1, .int pl]).shown.length ≤ sizeLine := by
        have t0 := few_txt lg0
        have t1 := few_txt lg1
        have tp := few_txt lgp
        have r0 := PySem.StrLaws.reprText_len n0 fun c hc => by have := (nok.ok n0 List.mem_cons_self).lets c hc; omega
        have r1 := PySem.StrLaws.reprText_len n1 fun c hc => by have := (nok.ok n1 (List.mem_cons_of_mem _ List.mem_cons_self)).lets c hc; omega
        simp only [PyData.shown, PyData.shownAll]
        rw [list5, sizeLine_eq]
        have : (Str.ofString (toString m0)).length = ((toString m0 : String) : Str).length := rfl
        omega
      have dqF : ∀ {q : Addr} {H : Hp}, H q = some (.lst [.int m0, .int m1, .str n0, .str n1, .int pl]) → Dq K H (.ref q) (.list [.int m0, .int m1, .str n0, .str n1, .int pl]) := fun h =>
        .lst h (.cons (.int _) (.cons (.int _) (.cons (.str _) (.cons (.str _) (.cons (.int _) .nil)))))
      refine ⟨_, rfl, .ref fl, _, KF, rfl, Same.refl _, dqF hfl, shw, hmd, dpt, szt, ?_⟩
      refine ⟨_, rfl, _, rfl, lm, ln, _, _, rfl, rfl, hlmF, hlnF, by show 2 + 2 ≤ sizeLine; decide, fun q1 nq1 => ?_⟩
      refine ⟨_, rfl, (by show 1 ≤ sizeLine; decide), fun q2 KG s2 nq2 hq2 => ⟨q1, q2, _, _, rfl, rfl, s2 _ _ upd_same, hq2, by show 4 + 1 ≤ sizeLine; decide, fun q3 nq3 => ?_⟩⟩
      refine ⟨.ref q3, _, _, rfl, Same.refl _, dqF upd_same, shw, hmd, dpt, szt, ?_⟩
      refine ⟨rfl, _, rfl, ifF (by simp) ?_⟩
      refine fun aD KH sH xH => ?_
      refine ⟨aD, D, none, _, _, true, rfl, ED, xH, hasD_none, (fun _ r => r), kDV, _, rfl, iteF ?_⟩
      exact ⟨_, _, _, _, _, _, _, _, _, _, rfl, C7.same (smKC.trans ((((sF.trans (Same.upd nq1)).trans s2).trans (Same.upd nq3)).trans sH)) (by omega)⟩
    · rintro σ H2 ⟨x2, x3, x4, x5, x6, x7, x8, x9, x10, x11, rfl, P2⟩
      exact k H2
end
end My

namespace My
open PySem PySem.Spec PyProof.Rows L2
def kitTB (K : PySem.W.Frag) (cs : List Addr) (D : Addr) : Bool := (List.range 12).all fun j => decide (PySem.W.kitOne K (.ref (cs.getD j 0)) (.ref D) = some true) && (decide (PySem.W.kitOne K (.ref (cs.getD j 0)) (.type "ValueError") = some true) &&
  (List.range 12).all fun k => decide (PySem.W.kitOne K (.ref (cs.getD j 0)) (.ref (cs.getD k 0)) = some (decide (k = j))))
theorem kitTB_ok {K : PySem.W.Frag} {cs : List Addr} {D : Addr} (h : kitTB K cs D = true) : (∀ j, j < 12 → ∀ k, k < 12 → PySem.W.kitOne K (.ref (cs.getD j 0)) (.ref (cs.getD k 0)) = some (decide (k = j))) ∧ (∀ j, j < 12 → PySem.W.kitOne K (.ref (cs.getD j 0)) (.ref D) = some true) ∧ ∀ j, j < 12 → PySem.W.kitOne K (.ref (cs.getD j 0)) (.type "ValueError") = some true := by
  unfold kitTB at h
  have h1 := List.all_eq_true.mp h
  have h2 : ∀ j, j < 12 → _ := fun j hj => (by simpa only [Bool.and_eq_true, decide_eq_true_eq, List.all_eq_true, List.mem_range] using h1 j (List.mem_range.mpr hj))
  exact ⟨fun j hj k hk => (h2 j hj).2.2 k hk, fun j hj => (h2 j hj).1, fun j hj => (h2 j hj).2.1⟩
theorem all_mk {l : PySem.W.OpenLaw} {w : World} {K : PySem.W.Frag} {h : Heap} {mg : Str → Option Value} {fa q0 q1 q2 q3 q4 q5 q6 q7 q8 q9 q10 q11 D fI0 fI1 fI2 fI3 fI4 f1 f2 f3 f4 f5 f6 f7 : Addr} (X : K.In h) (G : h.Ns mainGlobals mg) (hfa : mg "law" = some (.ref fa))
    {odI0 anI0 odI1 anI1 odI2 anI2 odI3 anI3 odI4 anI4 od1 an1 od2 an2 od3 an3 od4 an4 od5 an5 od6 an6 od7 an7 : Option Addr} {slI0 slI1 slI2 slI3 slI4 sl1 sl2 sl3 sl4 sl5 sl6 sl7 : Array (Option Value)} {ocI0 kVI0 dcI0 pmI0 cdI0 ctI0 ocI1 kVI1 dcI1 pmI1 cdI1 ctI1 ocI2 kVI2 dcI2 pmI2 cdI2 ctI2 ocI3 kVI3 dcI3 pmI3 cdI3 ctI3 ocI4 kVI4 dcI4 pmI4 cdI4 ctI4 oc1 kV1 dc1 pm1 cd1 ct1 oc2 kV2 dc2 pm2 cd2 ct2 oc3 kV3 dc3 pm3 cd3 ct3 oc4 kV4 dc4 pm4 cd4 ct4 oc5 kV5 dc5 pm5 cd5 ct5 oc6 kV6 dc6 pm6 cd6 ct6 oc7 kV7 dc7 pm7 cd7 ct7 : Value}
    (a1 : PySem.W.nsIn K mainGlobals "_law_spread" = some (some (.ref f1))) (l1 : K.lookup f1 = some ⟨oc1, od1, .func (PySem.W.fnOf "_law_spread" "_law_spread" (defArgs sSpread) (defBody sSpread) (defScope sSpread) .none kV1 dc1 pm1 an1 cd1 ct1), sl1⟩) (c1 : PySem.W.codeIn K cd1 "_law_spread" = true) (k1 : PySem.W.keepIn K (.ref f1) = true)
    (a2 : PySem.W.nsIn K mainGlobals "_law_open" = some (some (.ref f2))) (l2 : K.lookup f2 = some ⟨oc2, od2, .func (PySem.W.fnOf "_law_open" "_law_open" (defArgs sOpen) (defBody sOpen) (defScope sOpen) .none kV2 dc2 pm2 an2 cd2 ct2), sl2⟩) (c2 : PySem.W.codeIn K cd2 "_law_open" = true) (k2 : PySem.W.keepIn K (.ref f2) = true)
    (a3 : PySem.W.nsIn K mainGlobals "_law_take" = some (some (.ref f3))) (l3 : K.lookup f3 = some ⟨oc3, od3, .func (PySem.W.fnOf "_law_take" "_law_take" (defArgs sTake) (defBody sTake) (defScope sTake) .none kV3 dc3 pm3 an3 cd3 ct3), sl3⟩) (c3 : PySem.W.codeIn K cd3 "_law_take" = true) (k3 : PySem.W.keepIn K (.ref f3) = true)
    (a4 : PySem.W.nsIn K mainGlobals "_law_names" = some (some (.ref f4))) (l4 : K.lookup f4 = some ⟨oc4, od4, .func (PySem.W.fnOf "_law_names" "_law_names" (defArgs sNames) (defBody sNames) (defScope sNames) .none kV4 dc4 pm4 an4 cd4 ct4), sl4⟩) (c4 : PySem.W.codeIn K cd4 "_law_names" = true) (k4 : PySem.W.keepIn K (.ref f4) = true)
    (a5 : PySem.W.nsIn K mainGlobals "_law_kinds" = some (some (.ref f5))) (l5 : K.lookup f5 = some ⟨oc5, od5, .func (PySem.W.fnOf "_law_kinds" "_law_kinds" (defArgs sKinds) (defBody sKinds) (defScope sKinds) .none kV5 dc5 pm5 an5 cd5 ct5), sl5⟩) (c5 : PySem.W.codeIn K cd5 "_law_kinds" = true) (k5 : PySem.W.keepIn K (.ref f5) = true)
    (a6 : PySem.W.nsIn K mainGlobals "_law_is_caught" = some (some (.ref f6))) (l6 : K.lookup f6 = some ⟨oc6, od6, .func (PySem.W.fnOf "_law_is_caught" "_law_is_caught" (defArgs sCaught) (defBody sCaught) (defScope sCaught) .none kV6 dc6 pm6 an6 cd6 ct6), sl6⟩) (c6 : PySem.W.codeIn K cd6 "_law_is_caught" = true) (k6 : PySem.W.keepIn K (.ref f6) = true)
    (a7 : PySem.W.nsIn K mainGlobals "law" = some (some (.ref f7))) (l7 : K.lookup f7 = some ⟨oc7, od7, .func (PySem.W.fnOf "law" "law" (defArgs sLaw) (defBody sLaw) (defScope sLaw) .none kV7 dc7 pm7 an7 cd7 ct7), sl7⟩) (c7 : PySem.W.codeIn K cd7 "law" = true) (k7 : PySem.W.keepIn K (.ref f7) = true)
    (z_isinstance : PySem.W.nsIn K mainGlobals "isinstance" = some none)
    (z_list : PySem.W.nsIn K mainGlobals "list" = some none)
    (z_len : PySem.W.nsIn K mainGlobals "len" = some none)
    (z_enumerate : PySem.W.nsIn K mainGlobals "enumerate" = some none)
    (z_range : PySem.W.nsIn K mainGlobals "range" = some none)
    (z_repr : PySem.W.nsIn K mainGlobals "repr" = some none)
    (z_ValueError : PySem.W.nsIn K mainGlobals "ValueError" = some none)
    (u0 : PySem.W.nsIn K mainGlobals "TooMany" = some (some (.ref q0)))
    (u1 : PySem.W.nsIn K mainGlobals "Full" = some (some (.ref q1)))
    (u2 : PySem.W.nsIn K mainGlobals "Held" = some (some (.ref q2)))
    (u3 : PySem.W.nsIn K mainGlobals "Ring" = some (some (.ref q3)))
    (u4 : PySem.W.nsIn K mainGlobals "NoText" = some (some (.ref q4)))
    (u5 : PySem.W.nsIn K mainGlobals "NoBase" = some (some (.ref q5)))
    (u6 : PySem.W.nsIn K mainGlobals "NoWay" = some (some (.ref q6)))
    (u7 : PySem.W.nsIn K mainGlobals "NoStretch" = some (some (.ref q7)))
    (u8 : PySem.W.nsIn K mainGlobals "NoName" = some (some (.ref q8)))
    (u9 : PySem.W.nsIn K mainGlobals "NoForm" = some (some (.ref q9)))
    (u10 : PySem.W.nsIn K mainGlobals "NoMark" = some (some (.ref q10)))
    (u11 : PySem.W.nsIn K mainGlobals "NoRow" = some (some (.ref q11)))
    (uD : PySem.W.nsIn K mainGlobals "DustError" = some (some (.ref D)))
    (v0 : PySem.W.findIn K (.ref q0) "__init__" = some (some (.ref fI0)))
    (vl0 : K.lookup fI0 = some ⟨ocI0, odI0, .func (PySem.W.fnOf "__init__" "TooMany.__init__" (defArgs (inS 2)) (defBody (inS 2)) (defScope (inS 2)) .none kVI0 dcI0 pmI0 anI0 cdI0 ctI0), slI0⟩)
    (vc0 : PySem.W.codeIn K cdI0 "TooMany.__init__" = true)
    (vk0 : PySem.W.keepIn K (.ref fI0) = true)
    (vt0 : PySem.W.typeIn K (.ref fI0) = some (.type "function"))
    (vi0 : iniB K q0 "most" = true)
    (vx0 : xfB K q0 = true)
    (v1 : PySem.W.findIn K (.ref q1) "__init__" = some (some (.ref fI1)))
    (vl1 : K.lookup fI1 = some ⟨ocI1, odI1, .func (PySem.W.fnOf "__init__" "Full.__init__" (defArgs (inS 3)) (defBody (inS 3)) (defScope (inS 3)) .none kVI1 dcI1 pmI1 anI1 cdI1 ctI1), slI1⟩)
    (vc1 : PySem.W.codeIn K cdI1 "Full.__init__" = true)
    (vk1 : PySem.W.keepIn K (.ref fI1) = true)
    (vt1 : PySem.W.typeIn K (.ref fI1) = some (.type "function"))
    (vi1 : iniB K q1 "most" = true)
    (vx1 : xfB K q1 = true)
    (v2 : PySem.W.findIn K (.ref q2) "__init__" = some (some (.ref fI2)))
    (vl2 : K.lookup fI2 = some ⟨ocI2, odI2, .func (PySem.W.fnOf "__init__" "Held.__init__" (defArgs (inS 4)) (defBody (inS 4)) (defScope (inS 4)) .none kVI2 dcI2 pmI2 anI2 cdI2 ctI2), slI2⟩)
    (vc2 : PySem.W.codeIn K cdI2 "Held.__init__" = true)
    (vk2 : PySem.W.keepIn K (.ref fI2) = true)
    (vt2 : PySem.W.typeIn K (.ref fI2) = some (.type "function"))
    (vi2 : iniB K q2 "name" = true)
    (vx2 : xfB K q2 = true)
    (v3 : PySem.W.findIn K (.ref q3) "__init__" = some (some (.ref fI3)))
    (vl3 : K.lookup fI3 = some ⟨ocI3, odI3, .func (PySem.W.fnOf "__init__" "Ring.__init__" (defArgs (inS 5)) (defBody (inS 5)) (defScope (inS 5)) .none kVI3 dcI3 pmI3 anI3 cdI3 ctI3), slI3⟩)
    (vc3 : PySem.W.codeIn K cdI3 "Ring.__init__" = true)
    (vk3 : PySem.W.keepIn K (.ref fI3) = true)
    (vt3 : PySem.W.typeIn K (.ref fI3) = some (.type "function"))
    (vi3 : iniB K q3 "name" = true)
    (vx3 : xfB K q3 = true)
    (v4 : PySem.W.findIn K (.ref q4) "__init__" = some (some (.ref fI4)))
    (vl4 : K.lookup fI4 = some ⟨ocI4, odI4, .func (PySem.W.fnOf "__init__" "NoText.__init__" (defArgs (inS 6)) (defBody (inS 6)) (defScope (inS 6)) .none kVI4 dcI4 pmI4 anI4 cdI4 ctI4), slI4⟩)
    (vc4 : PySem.W.codeIn K cdI4 "NoText.__init__" = true)
    (vk4 : PySem.W.keepIn K (.ref fI4) = true)
    (vt4 : PySem.W.typeIn K (.ref fI4) = some (.type "function"))
    (vi4 : iniB K q4 "place" = true)
    (vx4 : xfB K q4 = true)
    (e0 : exiB K q0 = true)
    (kp0 : PySem.W.keepIn K (.ref q0) = true)
    (e1 : exiB K q1 = true)
    (kp1 : PySem.W.keepIn K (.ref q1) = true)
    (e2 : exiB K q2 = true)
    (kp2 : PySem.W.keepIn K (.ref q2) = true)
    (e3 : exiB K q3 = true)
    (kp3 : PySem.W.keepIn K (.ref q3) = true)
    (e4 : exiB K q4 = true)
    (kp4 : PySem.W.keepIn K (.ref q4) = true)
    (e5 : exiB K q5 = true)
    (kp5 : PySem.W.keepIn K (.ref q5) = true)
    (e6 : exiB K q6 = true)
    (kp6 : PySem.W.keepIn K (.ref q6) = true)
    (e7 : exiB K q7 = true)
    (kp7 : PySem.W.keepIn K (.ref q7) = true)
    (e8 : exiB K q8 = true)
    (kp8 : PySem.W.keepIn K (.ref q8) = true)
    (e9 : exiB K q9 = true)
    (kp9 : PySem.W.keepIn K (.ref q9) = true)
    (e10 : exiB K q10 = true)
    (kp10 : PySem.W.keepIn K (.ref q10) = true)
    (e11 : exiB K q11 = true)
    (kp11 : PySem.W.keepIn K (.ref q11) = true)
    (x5 : PySem.W.excIn K q5 [.type "ValueError", .type "Exception", .type "BaseException", .type "object"] "ValueError.__new__" = true)
    (x6 : PySem.W.excIn K q6 [.type "ValueError", .type "Exception", .type "BaseException", .type "object"] "ValueError.__new__" = true)
    (x7 : PySem.W.excIn K q7 [.type "ValueError", .type "Exception", .type "BaseException", .type "object"] "ValueError.__new__" = true)
    (x8 : PySem.W.excIn K q8 [.type "ValueError", .type "Exception", .type "BaseException", .type "object"] "ValueError.__new__" = true)
    (x9 : PySem.W.excIn K q9 [.type "ValueError", .type "Exception", .type "BaseException", .type "object"] "ValueError.__new__" = true)
    (x10 : PySem.W.excIn K q10 [.type "ValueError", .type "Exception", .type "BaseException", .type "object"] "ValueError.__new__" = true)
    (x11 : PySem.W.excIn K q11 [.type "ValueError", .type "Exception", .type "BaseException", .type "object"] "ValueError.__new__" = true)
    (xD : PySem.W.excIn K D [.type "ValueError", .type "Exception", .type "BaseException", .type "object"] "ValueError.__new__" = true)
    (kD : PySem.W.keepIn K (.ref D) = true)
    (eD : exiB K D = true)
    (t1 : kitTB K [q0, q1, q2, q3, q4, q5, q6, q7, q8, q9, q10, q11] D = true)
    (kv : PySem.W.kitOne K (.ref D) (.type "ValueError") = some true)
    (xm : PySem.W.exmOne K (.ref q0) (.ref D) = some true)
    (i1 : PySem.W.readsIn K D (.type "type") = true)
    (i2 : PySem.W.specialIn K (.ref D) "__getattribute__" = some (some (.builtin "type.__getattribute__")))
    (i3 : PySem.W.findCls K (.ref D) (.type "type") "__init__" = some (.val (.builtin "ValueError.__init__")))
    : ∃ fd : FuncData, (∀ (s : Shared) (v : Value), BindsTo s fd ⟨[v], []⟩ [("script", v)]) ∧ ∀ base : Heap, K.In base → base.Ns mainGlobals mg → AtTop l.prog w K mg base fa fd ["script"] (spLaw K) := by
  have e := hfa.symm.trans (PySem.W.mg_of X G a7)
  cases e
  have F1 := fun_mk (st := sSpread) l1 c1 k1; have g1 := PySem.W.mg_of X G a1
  have F2 := fun_mk (st := sOpen) l2 c2 k2; have g2 := PySem.W.mg_of X G a2
  have F3 := fun_mk (st := sTake) l3 c3 k3; have g3 := PySem.W.mg_of X G a3
  have F4 := fun_mk (st := sNames) l4 c4 k4; have g4 := PySem.W.mg_of X G a4
  have F5 := fun_mk (st := sKinds) l5 c5 k5; have g5 := PySem.W.mg_of X G a5
  have F6 := fun_mk (st := sCaught) l6 c6 k6; have g6 := PySem.W.mg_of X G a6
  have F7 := fun_mk (st := sLaw) l7 c7 k7; have g7 := PySem.W.mg_of X G a7
  have m_isinstance := PySem.W.mg_none_of X G z_isinstance
  have m_list := PySem.W.mg_none_of X G z_list
  have m_len := PySem.W.mg_none_of X G z_len
  have m_enumerate := PySem.W.mg_none_of X G z_enumerate
  have m_range := PySem.W.mg_none_of X G z_range
  have m_repr := PySem.W.mg_none_of X G z_repr
  have m_ValueError := PySem.W.mg_none_of X G z_ValueError
  have b1 := F1.binds (ps := ["cell", "at"]) fun _ _ _ _ _ _ us hl => match us, hl with | [_, _], _ => rfl
  have b2 := F2.binds (ps := ["script"]) fun _ _ _ _ _ _ us hl => match us, hl with | [_], _ => rfl
  have b3 := F3.binds (ps := ["pen", "many"]) fun _ _ _ _ _ _ us hl => match us, hl with | [_, _], _ => rfl
  have b4 := F4.binds (ps := ["pen", "many"]) fun _ _ _ _ _ _ us hl => match us, hl with | [_, _], _ => rfl
  have b5 := F5.binds (ps := ["one"]) fun _ _ _ _ _ _ us hl => match us, hl with | [_], _ => rfl
  have b6 := F6.binds (ps := ["most"]) fun _ _ _ _ _ _ us hl => match us, hl with | [_], _ => rfl
  have T1 := kitTB_ok t1
  have M : Cls K mg [q0, q1, q2, q3, q4, q5, q6, q7, q8, q9, q10, q11] D := ⟨PySem.W.mg_of X G u0, PySem.W.mg_of X G u1, PySem.W.mg_of X G u2, PySem.W.mg_of X G u3, PySem.W.mg_of X G u4, PySem.W.mg_of X G u5, PySem.W.mg_of X G u6, PySem.W.mg_of X G u7, PySem.W.mg_of X G u8, PySem.W.mg_of X G u9, PySem.W.mg_of X G u10, PySem.W.mg_of X G u11, PySem.W.mg_of X G uD, fun j hj => by
    match j, hj with
    | 0, _ => exact exiB_ok e0
    | 1, _ => exact exiB_ok e1
    | 2, _ => exact exiB_ok e2
    | 3, _ => exact exiB_ok e3
    | 4, _ => exact exiB_ok e4
    | 5, _ => exact exiB_ok e5
    | 6, _ => exact exiB_ok e6
    | 7, _ => exact exiB_ok e7
    | 8, _ => exact exiB_ok e8
    | 9, _ => exact exiB_ok e9
    | 10, _ => exact exiB_ok e10
    | 11, _ => exact exiB_ok e11
    | _ + 12, h => exact absurd h (by omega), fun j k hj hk => T1.1 j hj k hk, fun j hj => T1.2.1 j hj, fun j hj => T1.2.2 j hj⟩
  have TD : DInit K D := ⟨i1, i2, i3⟩
  have FF0 := fun_mk (st := inS 2) vl0 vc0 vk0
  have bb0 := FF0.binds (ps := ["self", "most"]) fun _ _ _ _ _ _ us hl => match us, hl with | [_, _], _ => rfl
  have II0 : Ini K q0 fI0 "most" := ⟨(iniB_ok vi0).1, (iniB_ok vi0).2, v0, vt0, xfB_ok vx0⟩
  have FF1 := fun_mk (st := inS 3) vl1 vc1 vk1
  have bb1 := FF1.binds (ps := ["self", "most"]) fun _ _ _ _ _ _ us hl => match us, hl with | [_, _], _ => rfl
  have II1 : Ini K q1 fI1 "most" := ⟨(iniB_ok vi1).1, (iniB_ok vi1).2, v1, vt1, xfB_ok vx1⟩
  have FF2 := fun_mk (st := inS 4) vl2 vc2 vk2
  have bb2 := FF2.binds (ps := ["self", "name"]) fun _ _ _ _ _ _ us hl => match us, hl with | [_, _], _ => rfl
  have II2 : Ini K q2 fI2 "name" := ⟨(iniB_ok vi2).1, (iniB_ok vi2).2, v2, vt2, xfB_ok vx2⟩
  have FF3 := fun_mk (st := inS 5) vl3 vc3 vk3
  have bb3 := FF3.binds (ps := ["self", "name"]) fun _ _ _ _ _ _ us hl => match us, hl with | [_, _], _ => rfl
  have II3 : Ini K q3 fI3 "name" := ⟨(iniB_ok vi3).1, (iniB_ok vi3).2, v3, vt3, xfB_ok vx3⟩
  have FF4 := fun_mk (st := inS 6) vl4 vc4 vk4
  have bb4 := FF4.binds (ps := ["self", "place"]) fun _ _ _ _ _ _ us hl => match us, hl with | [_, _], _ => rfl
  have II4 : Ini K q4 fI4 "place" := ⟨(iniB_ok vi4).1, (iniB_ok vi4).2, v4, vt4, xfB_ok vx4⟩
  refine ⟨PySem.W.fnOf "law" "law" (defArgs sLaw) (defBody sLaw) (defScope sLaw) .none kV7 dc7 pm7 an7 cd7 ct7, fun s v => .of_eq rfl, fun base _ _ => ?_⟩
  have GT := ok_takeC (P := l.prog) (w := w) (base := base) F3 m_len F1 b1 g1
  have GNm := ok_names (P := l.prog) (w := w) (base := base) F4 ⟨m_len, m_range⟩ F3 GT b3 g3
  have GI0 : FnOk l.prog w K mg base CX0 1 fI0 _ ["self", "most"] (spIni K ([q0, q1, q2, q3, q4, q5, q6, q7, q8, q9, q10, q11].getD 0 0) "most") := ini_TooMany (C := q0) FF0 (PySem.W.mg_of X G uD) TD
  have GI1 : FnOk l.prog w K mg base CX0 1 fI1 _ ["self", "most"] (spIni K ([q0, q1, q2, q3, q4, q5, q6, q7, q8, q9, q10, q11].getD 1 0) "most") := ini_Full (C := q1) FF1 (PySem.W.mg_of X G uD) TD
  have GI2 : FnOk l.prog w K mg base CX0 1 fI2 _ ["self", "name"] (spIni K ([q0, q1, q2, q3, q4, q5, q6, q7, q8, q9, q10, q11].getD 2 0) "name") := ini_Held (C := q2) FF2 (PySem.W.mg_of X G uD) TD
  have GI3 : FnOk l.prog w K mg base CX0 1 fI3 _ ["self", "name"] (spIni K ([q0, q1, q2, q3, q4, q5, q6, q7, q8, q9, q10, q11].getD 3 0) "name") := ini_Ring (C := q3) FF3 (PySem.W.mg_of X G uD) TD
  have GI4 : FnOk l.prog w K mg base CX0 1 fI4 _ ["self", "place"] (spIni K ([q0, q1, q2, q3, q4, q5, q6, q7, q8, q9, q10, q11].getD 4 0) "place") := ini_NoText (C := q4) FF4 (PySem.W.mg_of X G uD) TD
  have GK := ok_kinds (P := l.prog) (w := w) (base := base) F5 ⟨m_isinstance⟩ M
  have GC := ok_caught (P := l.prog) (w := w) (base := base) F6 M II0 GI0 bb0 xm
  refine ok_law F7 ⟨m_range, m_isinstance, m_ValueError, m_enumerate, m_repr⟩ M (exiB_ok eD) kv (fun k h5 h12 => ?_) (fun k h12 => ?_) xD kD II0 GI0 bb0 II1 GI1 bb1 II2 GI2 bb2 II3 GI3 bb3 II4 GI4 bb4 F2 (ok_open F2 m_list m_enumerate) b2 g2 F3 GT b3 g3 F4 GNm b4 g4 F5 GK b5 g5 F6 GC b6 g6
  · match k, h5, h12 with
    | 5, _, _ => exact x5
    | 6, _, _ => exact x6
    | 7, _, _ => exact x7
    | 8, _, _ => exact x8
    | 9, _, _ => exact x9
    | 10, _, _ => exact x10
    | 11, _, _ => exact x11
    | _ + 12, _, h => exact absurd h (by omega)
  · match k, h12 with
    | 0, _ => exact kp0
    | 1, _ => exact kp1
    | 2, _ => exact kp2
    | 3, _ => exact kp3
    | 4, _ => exact kp4
    | 5, _ => exact kp5
    | 6, _ => exact kp6
    | 7, _ => exact kp7
    | 8, _ => exact kp8
    | 9, _ => exact kp9
    | 10, _ => exact kp10
    | 11, _ => exact kp11
    | _ + 12, h => exact absurd h (by omega)
end My
open PySem PySem.W PyProof.Rows
set_option maxRecDepth 100000 in
set_option maxHeartbeats 0 in
theorem PySem.Challenge.cw_dustwithin_k07_refusals_by_hand_holds : PySem.Challenge.rw_dustwithin_k07_refusals_by_hand.Holds := by
  w_on; o_law; k_head; (case hw => w_witness2)
  k_fill
  refine My.walk_top (l := PySem.Challenge.rw_dustwithin_k07_refusals_by_hand) (n := 63) (x := "script") (sp := fun w => My.spLaw _) rfl (by decide) rfl (fun w h Y => PySem.W.kIn_of Y) ?F (fun _ _ a ns hl _ hS => ⟨a, ns, rfl, hS, hl, fun _ => rfl⟩)
  case F =>
    intro w mg fa h KX G hmg
    refine' My.all_mk KX G hmg ?a1 ?l1 ?c1 ?k1 ?a2 ?l2 ?c2 ?k2 ?a3 ?l3 ?c3 ?k3 ?a4 ?l4 ?c4 ?k4 ?a5 ?l5 ?c5 ?k5 ?a6 ?l6 ?c6 ?k6 ?a7 ?l7 ?c7 ?k7 ?z_isinstance ?z_list ?z_len ?z_enumerate ?z_range ?z_repr ?z_ValueError ?u0 ?u1 ?u2 ?u3 ?u4 ?u5 ?u6 ?u7 ?u8 ?u9 ?u10 ?u11 ?uD ?v0 ?vl0 ?vc0 ?vk0 ?vt0 ?vi0 ?vx0 ?v1 ?vl1 ?vc1 ?vk1 ?vt1 ?vi1 ?vx1 ?v2 ?vl2 ?vc2 ?vk2 ?vt2 ?vi2 ?vx2 ?v3 ?vl3 ?vc3 ?vk3 ?vt3 ?vi3 ?vx3 ?v4 ?vl4 ?vc4 ?vk4 ?vt4 ?vi4 ?vx4 ?e0 ?kp0 ?e1 ?kp1 ?e2 ?kp2 ?e3 ?kp3 ?e4 ?kp4 ?e5 ?kp5 ?e6 ?kp6 ?e7 ?kp7 ?e8 ?kp8 ?e9 ?kp9 ?e10 ?kp10 ?e11 ?kp11 ?x5 ?x6 ?x7 ?x8 ?x9 ?x10 ?x11 ?xD ?kD ?eD ?t1 ?kv ?xm ?i1 ?i2 ?i3
    (case a1 => k_is); (case l1 => k_is); (case c1 => k_is); (case k1 => k_is); (case a2 => k_is); (case l2 => k_is)
    (case c2 => k_is); (case k2 => k_is); (case a3 => k_is); (case l3 => k_is); (case c3 => k_is); (case k3 => k_is)
    (case a4 => k_is); (case l4 => k_is); (case c4 => k_is); (case k4 => k_is); (case a5 => k_is); (case l5 => k_is)
    (case c5 => k_is); (case k5 => k_is); (case a6 => k_is); (case l6 => k_is); (case c6 => k_is); (case k6 => k_is)
    (case a7 => k_is); (case l7 => k_is); (case c7 => k_is); (case k7 => k_is); (case z_isinstance => k_is); (case z_list => k_is)
    (case z_len => k_is); (case z_enumerate => k_is); (case z_range => k_is); (case z_repr => k_is); (case z_ValueError => k_is); (case u0 => k_is)
    (case u1 => k_is); (case u2 => k_is); (case u3 => k_is); (case u4 => k_is); (case u5 => k_is); (case u6 => k_is)
    (case u7 => k_is); (case u8 => k_is); (case u9 => k_is); (case u10 => k_is); (case u11 => k_is); (case uD => k_is)
    (case v0 => k_is); (case vl0 => k_is); (case vc0 => k_is); (case vk0 => k_is); (case vt0 => k_is); (case vi0 => kernel_rfl)
    (case vx0 => kernel_rfl); (case v1 => k_is); (case vl1 => k_is); (case vc1 => k_is); (case vk1 => k_is); (case vt1 => k_is)
    (case vi1 => kernel_rfl); (case vx1 => kernel_rfl); (case v2 => k_is); (case vl2 => k_is); (case vc2 => k_is); (case vk2 => k_is)
    (case vt2 => k_is); (case vi2 => kernel_rfl); (case vx2 => kernel_rfl); (case v3 => k_is); (case vl3 => k_is); (case vc3 => k_is)
    (case vk3 => k_is); (case vt3 => k_is); (case vi3 => kernel_rfl); (case vx3 => kernel_rfl); (case v4 => k_is); (case vl4 => k_is)
    (case vc4 => k_is); (case vk4 => k_is); (case vt4 => k_is); (case vi4 => kernel_rfl); (case vx4 => kernel_rfl); (case e0 => kernel_rfl)
    (case kp0 => k_is); (case e1 => kernel_rfl); (case kp1 => k_is); (case e2 => kernel_rfl); (case kp2 => k_is); (case e3 => kernel_rfl)
    (case kp3 => k_is); (case e4 => kernel_rfl); (case kp4 => k_is); (case e5 => kernel_rfl); (case kp5 => k_is); (case e6 => kernel_rfl)
    (case kp6 => k_is); (case e7 => kernel_rfl); (case kp7 => k_is); (case e8 => kernel_rfl); (case kp8 => k_is); (case e9 => kernel_rfl)
    (case kp9 => k_is); (case e10 => kernel_rfl); (case kp10 => k_is); (case e11 => kernel_rfl); (case kp11 => k_is); (case x5 => kernel_rfl)
    (case x6 => kernel_rfl); (case x7 => kernel_rfl); (case x8 => kernel_rfl); (case x9 => kernel_rfl); (case x10 => kernel_rfl); (case x11 => kernel_rfl)
    (case xD => kernel_rfl); (case kD => k_is); (case eD => kernel_rfl); (case t1 => kernel_rfl); (case kv => kernel_rfl); (case xm => kernel_rfl)
    (case i1 => k_is); (case i2 => k_is); (case i3 => k_is)
