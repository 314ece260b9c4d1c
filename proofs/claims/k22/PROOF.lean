import PyProof.Rows.All
import Wide.All
import OpenK.AllK
import Wide.FinOn
import HandS.ForMost
import HandS.Wide
import HandS.Gcd
import HandS.IsInst
import HandS.TupAny
import HandS.SortInts
import HandS.Style
import HandS.Codes
import HandS.Walk
import HandS.RaiseMore
import HandS.TupMul
import HandS.WideBits
import HandS.Zip
import HandS.Exc
import HandS.ExcValue
import HandS.ExcInit
import HandS.ExcIs
import HandS.ExcField
import HandS.ClsMeth
import KE.KExcIs
import KE.KIsAll
import HandS.FStr
import HandS.ExcOwn
import KE.KDictKeyed
import KE.KDictPairs
import HandS.TupLen
import KE.KDictWalk
import PyProof.DictTable
import HandS.Conv
import HandS.Nested
import KE.KDictCopyH
import HandS.Defaults
import HandS.NestedK
import HandS.EndTab
import KE.KNestM
import PySem.Challenge.RW_dustwithin_k22_stretches
set_option Elab.async false
set_option maxRecDepth 100000
namespace My
open PySem PySem.Spec PyProof.Rows L2

/-! ### sorted(t), t a tuple of ints -/
section
variable {prog : Program} {w : World} {A : Around} {E : Value → Shared → Prop} {s : Shared}
theorem gather_tup {t : Addr} {us : List Value} {Q : List Value → Shared → Prop} (ht : IsTup s.heap t us.toArray) (hz : us.length ≤ sizeLine)
    (q : Q us { s with heap := (s.heap.push (seqObj "list" #[] 0)).update s.heap.objs.size (Obj.mapSeq (· ++ us.toArray)) }) : wpAny (model prog w) A (collect (.ref t)) Q E s := by
  obtain ⟨ob, hob, hcl, m, hdat⟩ := ht
  unfold collect
  refine wpAny_bind (wpAny_runValue (codeAny_builtin entry_proto_collect' ?_))
  show wpAny _ _ (do again (.builtin "list.__iadd__" ⟨[← newList [], .ref t], []⟩)) _ _ s
  refine wpAny_bind (wpAny_newList (wpAny_pure ⟨Code.quiet_builtin _ (by decide +kernel), codeAny_builtin entry_list_iadd' ?_⟩))
  show wpAny _ _ (Builtin.List.listExtendWith (.ref s.heap.objs.size) (.ref t) (.ref s.heap.objs.size)) _ _ { s with heap := s.heap.push (seqObj "list" #[] 0) }
  unfold Builtin.List.listExtendWith
  have hob1 : (s.heap.push (seqObj "list" #[] 0)).get? t = some ob := Heap.get?_push_of_some _ hob
  have e2 : (Value.type "tuple" == Value.type "tuple") = true := by rfl
  refine wpAny_bind (wpAny_typeOf (T := "tuple") ⟨ob, hob1, hcl⟩ ?_); rw [if_pos (by rw [e2]; simp)]
  refine wpAny_bind (listItems_at hob1 hdat ?_); refine wpAny_bind (listItems_at (n := 0) (xs := #[]) (Heap.get?_push_size _ rfl) rfl ?_); rw [if_neg (by simp)]
  refine wpAny_bind (listUpdate_at (n := 0) (xs := #[]) (Heap.get?_push_size _ rfl) rfl ?_ (Nat.zero_le _) (by show (#[] ++ us.toArray).size ≤ sizeLine + 1; simp only [Array.size_append, List.size_toArray, List.length_nil]; omega))
  refine wpAny_pure ?_; show wpAny (model prog w) A (do
      let ob ← load s.heap.objs.size
      match ob.data with
      | .seq xs _ => pure xs.toList
      | _ => unsupported "internal:collect") Q E { s with heap := (s.heap.push (seqObj "list" #[] 0)).update s.heap.objs.size (Obj.mapSeq (· ++ us.toArray)) }
  refine wpAny_bind (wpAny_load (get?_update_seq (Heap.get?_push_size _ rfl) _) ?_)
  show wpAny _ _ (pure ((#[] : Array Value) ++ us.toArray).toList) Q E _
  rw [show ((#[] : Array Value) ++ us.toArray).toList = us by simp]; exact wpAny_pure q
theorem sorted_tup {t : Addr} {us : List Value} {ms : List Int} {Q : Value → Shared → Prop} (ht : IsTup s.heap t us.toArray) (hI : IntsAre us ms) (h64 : us.length < 64)
    (q : ∀ (out : Array Value) (ms' : List Int), IntsAre out.toList ms' → ms'.Perm ms → ms'.Pairwise (· ≤ ·) → Q (.ref (s.heap.objs.size + 1)) { s with heap := sortedAll s.heap us out }) :
    wpAny (model prog w) A (call (.builtin "sorted") [.ref t]) Q E s := by
  refine Calls.call_function_entry kind_sorted plain_sorted entry_sorted (args_sorted1 _) ?_; unfold Builtin.«sorted»
  refine wpAny_bind (m := checkCount "sorted" 1 1 _) (wpAny_pure ?_)
  refine wpAny_bind (gather_tup ht (small64 h64) ?_); refine wpAny_bind (wpAny_newList ?_ (small64 h64))
  have k1 : ((s.heap.push (seqObj "list" #[] 0)).update s.heap.objs.size (Obj.mapSeq (· ++ us.toArray))).objs.size = s.heap.objs.size + 1 := by rw [Heap.size_update, size_push']
  have k2 : (((s.heap.push (seqObj "list" #[] 0)).update s.heap.objs.size (Obj.mapSeq (· ++ us.toArray))).push (seqObj "list" us.toArray 0)).get? (s.heap.objs.size + 1) = some (seqObj "list" us.toArray 0) := by rw [← k1]; exact Heap.get?_push_size _ rfl
  show wpAny _ _ _ _ _ { s with heap := ((s.heap.push (seqObj "list" #[] 0)).update s.heap.objs.size (Obj.mapSeq (· ++ us.toArray))).push (seqObj "list" us.toArray 0) }
  rw [k1]
  refine wpAny_bind (wpAny_holding (wpAny_call_entry slot_list_sort ⟨_, k2, rfl⟩ entry_list_sort (list_sort_tree k2 hI h64 fun out ms' a1 a2 a3 => ⟨_, rfl, ?_⟩) (args_list_sort _)))
  exact wpAny_pure ⟨_, rfl, q out ms' a1 a2 a3⟩
end
section
variable {X : Cx}
theorem cr_sortedTup : CallR X (.builtin "sorted") (fun vs H Q => ∃ (a : Addr) (ms : List Int), vs = [V.ref a] ∧ SqT X.K H a (ms.map V.int) ∧ ms.length < 64 ∧
    ∀ (ms' : List Int) (p : Addr), ms'.Perm ms → ms'.Pairwise (· ≤ ·) → H p = none → Q (.ref p) (upd H p (.lst (ms'.map V.int)))) := by
  intro pins s σ H vs us Q I r h
  obtain ⟨a, ms, rfl, hs, h64, q⟩ := h
  obtain ⟨its, rv, hl, _⟩ := I.tuple hs
  rw [Vals.ref1 r]
  have hi := rv.ints
  refine sorted_tup hl hi (by rw [hi.length]; exact h64) fun out ms' h1 h2 h3 => ?_
  obtain ⟨ep, he⟩ := PyProof.Rows.sortedAll_at s.heap its out
  have hlen : (ms'.map V.int).length ≤ sizeLine := by rw [List.length_map, h2.length_eq]; exact small64 h64
  exact ⟨.ref _, upd H (s.heap.objs.size + 1) (.lst (ms'.map V.int)), I.laid (t' := s.toks) (fun _ _ => sortedAll_old) (Nat.le_succ _) ⟨hlen, out.toList, ep, vals_of_ints h1, he⟩, rfl, q ms' _ h2 h3 (I.hok.fresh (Nat.le_succ _))⟩
end

/-! ### data that stands still: G is a part of the heap that nothing writes -/
mutual
inductive Dq (K : PySem.W.Frag) (G : Hp) : V → PyData → Prop
  | non : Dq K G .non .none
  | bl (b : Bool) : Dq K G (.bl b) (.bool b)
  | int (i : Int) : Dq K G (.int i) (.int i)
  | str (x : Str) : Dq K G (.str x) (.str x)
  | lst {a : Addr} {xs : List V} {ds : List PyData} : G a = some (.lst xs) → DqAll K G xs ds → Dq K G (.ref a) (.list ds)
  | tup {a : Addr} {xs : List V} {ds : List PyData} : G a = some (.tup xs) → DqAll K G xs ds → Dq K G (.ref a) (.tuple ds)
  | dct {a : Addr} {kvs : List (Key × V)} {ds : List (PyData × PyData)} : G a = some (.dK kvs) → DqAll K G (kvs.map fun kv => kV kv.1) (ds.map (·.1)) → DqAll K G (kvs.map (·.2)) (ds.map (·.2)) → Dq K G (.ref a) (.dict ds)
inductive DqAll (K : PySem.W.Frag) (G : Hp) : List V → List PyData → Prop
  | nil : DqAll K G [] []
  | cons {v : V} {vs : List V} {d : PyData} {ds : List PyData} : Dq K G v d → DqAll K G vs ds → DqAll K G (v :: vs) (d :: ds)
end
section
variable {K : PySem.W.Frag} {G G' H : Hp}
mutual
theorem Dq.mono (e : Same G G') : ∀ {v : V} {d : PyData}, Dq K G v d → Dq K G' v d
  | _, _, .non => .non
  | _, _, .bl b => .bl b
  | _, _, .int i => .int i
  | _, _, .str x => .str x
  | _, _, .lst h t => .lst (e _ _ h) (DqAll.mono e t)
  | _, _, .tup h t => .tup (e _ _ h) (DqAll.mono e t)
  | _, _, .dct h t u => .dct (e _ _ h) (DqAll.mono e t) (DqAll.mono e u)
theorem DqAll.mono (e : Same G G') : ∀ {vs : List V} {ds : List PyData}, DqAll K G vs ds → DqAll K G' vs ds
  | _, _, .nil => .nil
  | _, _, .cons h t => .cons (Dq.mono e h) (DqAll.mono e t)
end
theorem DqAll.append : ∀ {vs ws : List V} {ds es : List PyData}, DqAll K G vs ds → DqAll K G ws es → DqAll K G (vs ++ ws) (ds ++ es)
  | _, _, _, _, .nil, t => t
  | _, _, _, _, .cons h r, t => .cons h (DqAll.append r t)
theorem DqAll.get : ∀ {vs : List V} {ds : List PyData} {i : Nat} {v : V}, DqAll K G vs ds → vs[i]? = some v → ∃ d, ds[i]? = some d ∧ Dq K G v d
  | _, _, _, _, .nil, e => by simp at e
  | _, _, 0, _, .cons h _, e => by simp at e; subst e; exact ⟨_, rfl, h⟩
  | _, _, i + 1, v, .cons _ t, e => by
    obtain ⟨d, h1, h2⟩ := DqAll.get (i := i) (v := v) t (by simpa using e)
    exact ⟨d, by simpa using h1, h2⟩
theorem DqAll.len : ∀ {vs : List V} {ds : List PyData}, DqAll K G vs ds → vs.length = ds.length
  | _, _, .nil => rfl
  | _, _, .cons _ t => by rw [List.length_cons, List.length_cons, DqAll.len t]
theorem DqAll.drop : ∀ {vs : List V} {ds : List PyData} (n : Nat), DqAll K G vs ds → DqAll K G (vs.drop n) (ds.drop n)
  | _, _, 0, h => h
  | _, _, _ + 1, .nil => .nil
  | _, _, n + 1, .cons _ t => DqAll.drop n t
theorem DqAll.take : ∀ {vs : List V} {ds : List PyData} (n : Nat), DqAll K G vs ds → DqAll K G (vs.take n) (ds.take n)
  | _, _, 0, _ => .nil
  | _, _, _ + 1, .nil => .nil
  | _, _, n + 1, .cons h t => .cons h (DqAll.take n t)
theorem DqAll.rev : ∀ {vs : List V} {ds : List PyData}, DqAll K G vs ds → DqAll K G vs.reverse ds.reverse
  | _, _, .nil => .nil
  | _, _, .cons h t => by
    rw [List.reverse_cons, List.reverse_cons]
    exact DqAll.append (DqAll.rev t) (.cons h .nil)
theorem dq_ints (K : PySem.W.Frag) (G : Hp) : ∀ ns : List Int, DqAll K G (ns.map V.int) (ns.map PyData.int)
  | [] => .nil
  | n :: r => .cons (.int n) (dq_ints K G r)
end
mutual
def hasList : PyData → Bool
  | .list _ => true
  | .tuple xs => hasListAll xs
  | .dict kvs => hasListKv kvs
  | _ => false
def hasListAll : List PyData → Bool
  | [] => false
  | x :: xs => hasList x || hasListAll xs
def hasListKv : List (PyData × PyData) → Bool
  | [] => false
  | (k, v) :: r => hasList k || hasList v || hasListKv r
end
theorem hasListKv_split : ∀ kvs : List (PyData × PyData), hasListKv kvs = false → hasListAll (kvs.map (·.1)) = false ∧ hasListAll (kvs.map (·.2)) = false
  | [], _ => ⟨rfl, rfl⟩
  | (k, v) :: r, h => by
    simp only [hasListKv, Bool.or_eq_false_iff] at h
    obtain ⟨a, b⟩ := hasListKv_split r h.2
    simp only [List.map_cons, hasListAll, Bool.or_eq_false_iff]
    exact ⟨⟨h.1.1, a⟩, h.1.2, b⟩
section
variable {X : Cx} {pins : List (Addr × Obj)} {σ : L2.St} {H : Hp} {s : Shared}
theorem kv_keys {P : Program} {w : World} : ∀ {kvs : List (Key × V)} {vs : List (Key × Value)} {es : List DictEntry}, KV kvs vs → Pairs (mixKind P w) es vs → Vals (kvs.map fun kv => kV kv.1) (es.map (·.key)) ∧ Vals (kvs.map (·.2)) (es.map (·.val))
  | _, _, _, .nil, .nil => ⟨.nil, .nil⟩
  | (k, v) :: _, (k', v') :: _, _ :: _, .cons ⟨h1, h2⟩ t, .cons g1 g2 g3 => by
    obtain ⟨a, b⟩ := kv_keys t g3
    refine ⟨.cons ?_ a, .cons ?_ b⟩
    · have e : k = k' := h1
      subst e
      rcases keyIs_shape (show keyIs k _ = true from g1) with ⟨i, tk, rfl, e2⟩ | ⟨x, tk, rfl, e2⟩
      · exact ⟨tk, e2⟩
      · exact ⟨tk, e2⟩
    · have e2 : (_ : DictEntry).val = v' := g2
      show RelV v (DictEntry.val _)
      rw [e2]; exact h2
mutual
theorem Dq.reads (I : Inv X pins σ H s) : ∀ (d : PyData) (v : V) (u : Value), Dq X.K H v d → RelV v u → ∃ as, Reads s.heap u d as ∧ (hasList d = false → sysModules ∉ as)
  | .none, _, _, h, r => by cases h; cases r; exact ⟨_, Reads.none, fun _ z => nomatch z⟩
  | .bool b, _, _, h, r => by cases h; cases r; exact ⟨_, Reads.bool b, fun _ z => nomatch z⟩
  | .int i, _, _, h, r => by cases h; obtain ⟨t, rfl⟩ := r; exact ⟨_, Reads.int i t, fun _ z => nomatch z⟩
  | .str x, _, _, h, r => by cases h; obtain ⟨t, rfl⟩ := r; exact ⟨_, Reads.str x t, fun _ z => nomatch z⟩
  | .list ds, _, _, h, r => by
    cases h with
    | lst hs ha =>
      cases r
      obtain ⟨_, its, n, rv, ho⟩ := I.hok _ _ hs
      obtain ⟨as, hr, _⟩ := DqAll.reads I ds _ its ha rv
      exact ⟨_, Reads.list ho rfl rfl (by simpa using hr), fun z => nomatch z⟩
  | .tuple ds, _, _, h, r => by
    cases h with
    | tup hs ha =>
      cases r
      obtain ⟨_, its, rv, o, ho, hc, n, hd⟩ := I.hok _ _ hs
      obtain ⟨as, hr, hn⟩ := DqAll.reads I ds _ its ha rv
      exact ⟨_, Reads.tuple ho hc hd (by simpa using hr), fun z => hn (by simpa only [hasList] using z)⟩
  | .dict ds, _, _, h, r => by
    cases h with
    | dct hs hk hv =>
      rename_i a kvs
      cases r
      obtain ⟨_, hm, vs, rel, o, es, ep, ho, hx, hd, _, hp, _⟩ := I.hok _ _ hs
      obtain ⟨r1, r2⟩ := kv_keys rel hp
      obtain ⟨as, q1, n1⟩ := DqAll.readsK I ds _ _ hk r1
      obtain ⟨bs, q2, n2⟩ := DqAll.readsV I ds _ _ hv r2
      refine ⟨_, Reads.dict ho hx.1 hd q1 q2, fun z => ?_⟩
      obtain ⟨z1, z2⟩ := hasListKv_split ds (by simpa only [hasList] using z)
      intro hmem
      rcases List.mem_append.mp hmem with hmem | hmem
      · rcases List.mem_cons.mp hmem with e | e
        · rw [← e] at hm; simp at hm
        · exact n1 z1 e
      · exact n2 z2 hmem
theorem DqAll.reads (I : Inv X pins σ H s) : ∀ (ds : List PyData) (vs : List V) (us : List Value), DqAll X.K H vs ds → Vals vs us → ∃ as, ReadsAll s.heap us ds as ∧ (hasListAll ds = false → sysModules ∉ as)
  | [], _, _, h, r => by cases h; cases r; exact ⟨_, ReadsAll.nil, fun _ z => nomatch z⟩
  | d :: ds, _, _, h, r => by
    cases h with
    | cons h1 h2 =>
      cases r with
      | cons r1 r2 =>
        obtain ⟨as, q1, n1⟩ := Dq.reads I d _ _ h1 r1
        obtain ⟨bs, q2, n2⟩ := DqAll.reads I ds _ _ h2 r2
        refine ⟨_, ReadsAll.cons q1 q2, fun z hm => ?_⟩
        simp only [hasListAll, Bool.or_eq_false_iff] at z
        rcases List.mem_append.mp hm with e | e
        · exact n1 z.1 e
        · exact n2 z.2 e
theorem DqAll.readsK (I : Inv X pins σ H s) : ∀ (ds : List (PyData × PyData)) (vs : List V) (us : List Value), DqAll X.K H vs (ds.map (·.1)) → Vals vs us → ∃ as, ReadsAll s.heap us (ds.map (·.1)) as ∧ (hasListAll (ds.map (·.1)) = false → sysModules ∉ as)
  | [], _, _, h, r => by cases h; cases r; exact ⟨_, ReadsAll.nil, fun _ z => nomatch z⟩
  | (d, d') :: ds, _, _, h, r => by
    cases h with
    | cons h1 h2 =>
      cases r with
      | cons r1 r2 =>
        obtain ⟨as, q1, n1⟩ := Dq.reads I d _ _ h1 r1
        obtain ⟨bs, q2, n2⟩ := DqAll.readsK I ds _ _ h2 r2
        refine ⟨_, ReadsAll.cons q1 q2, fun z hm => ?_⟩
        simp only [List.map_cons, hasListAll, Bool.or_eq_false_iff] at z
        rcases List.mem_append.mp hm with e | e
        · exact n1 z.1 e
        · exact n2 z.2 e
theorem DqAll.readsV (I : Inv X pins σ H s) : ∀ (ds : List (PyData × PyData)) (vs : List V) (us : List Value), DqAll X.K H vs (ds.map (·.2)) → Vals vs us → ∃ as, ReadsAll s.heap us (ds.map (·.2)) as ∧ (hasListAll (ds.map (·.2)) = false → sysModules ∉ as)
  | [], _, _, h, r => by cases h; cases r; exact ⟨_, ReadsAll.nil, fun _ z => nomatch z⟩
  | (d, d') :: ds, _, _, h, r => by
    cases h with
    | cons h1 h2 =>
      cases r with
      | cons r1 r2 =>
        obtain ⟨as, q1, n1⟩ := Dq.reads I d' _ _ h1 r1
        obtain ⟨bs, q2, n2⟩ := DqAll.readsV I ds _ _ h2 r2
        refine ⟨_, ReadsAll.cons q1 q2, fun z hm => ?_⟩
        simp only [List.map_cons, hasListAll, Bool.or_eq_false_iff] at z
        rcases List.mem_append.mp hm with e | e
        · exact n1 z.1 e
        · exact n2 z.2 e
end
end
end My

namespace My
open PySem PySem.Spec PyProof.Rows L2
def topS (i : Nat) : Stmt := PySem.Challenge.pw_dustwithin_k22_stretches.main.body.getD i (.Pass ⟨0, 0, 0, 0⟩)
abbrev sSpread : Stmt := topS 18
abbrev sOpen : Stmt := topS 19
abbrev sTake : Stmt := topS 20
/-! ### the pen -/
structure PenAt (H : Hp) (p : Addr) (t : Nat) : Prop where
  ex : ∃ (c : Addr) (cells : List Int) (at' rest : Int), H p = some (.lst [.ref c, .int at', .int rest]) ∧ H c = some (.lst (cells.map V.int)) ∧ 0 ≤ at' ∧ at' ≤ (t : Int)
theorem ne_len {H : Hp} {p c : Addr} {xs ys : List V} (h : H p = some (.lst xs)) (g : H c = some (.lst ys)) (e : xs ≠ ys) : c ≠ p := by
  intro z; subst z; rw [h] at g; cases g; exact e rfl
theorem pen_ne {H : Hp} {p c : Addr} {x : Addr} {i j : Int} {cells : List Int} (h : H p = some (.lst [.ref x, .int i, .int j])) (g : H c = some (.lst (cells.map V.int))) : c ≠ p :=
  ne_len h g (by intro z; cases cells with | nil => cases z | cons a r => cases z)
def But (p : Addr) (H H' : Hp) : Prop := ∀ b o, b ≠ p → H b = some o → H' b = some o
theorem But.of {p : Addr} {H H' : Hp} (e : Same H H') : But p H H' := fun b o _ => e b o
theorem But.trans {p : Addr} {H H1 H2 : Hp} (a : But p H H1) (b : But p H1 H2) : But p H H2 := fun c o n h => b c o n (a c o n h)
theorem But.upd {p : Addr} {H : Hp} {o : HO} : But p H (upd H p o) := fun b u n h => by rw [upd_ne n]; exact h
theorem PenAt.same {H H' : Hp} {p : Addr} {t u : Nat} (e : Same H H') (h : t ≤ u) (P : PenAt H p t) : PenAt H' p u := by
  obtain ⟨c, cells, x, y, h1, h2, h3, h4⟩ := P.ex
  exact ⟨c, cells, x, y, e _ _ h1, e _ _ h2, h3, by omega⟩
theorem Same.upd {H : Hp} {p : Addr} {o : HO} (n : H p = none) : Same H (upd H p o) := fun b u h => by rw [upd_ne (ne_of_none h n)]; exact h
structure PenC (H : Hp) (p c : Addr) (t : Nat) : Prop where
  ex : ∃ (cells : List Int) (at' rest : Int), H p = some (.lst [.ref c, .int at', .int rest]) ∧ H c = some (.lst (cells.map V.int)) ∧ 0 ≤ at' ∧ at' ≤ (t : Int)
theorem PenC.any {H : Hp} {p c : Addr} {t : Nat} (h : PenC H p c t) : PenAt H p t := by
  obtain ⟨cells, x, y, h⟩ := h.ex
  exact ⟨c, cells, x, y, h⟩
theorem PenAt.c {H : Hp} {p : Addr} {t : Nat} (h : PenAt H p t) : ∃ c, PenC H p c t := by
  obtain ⟨c, cells, x, y, h⟩ := h.ex
  exact ⟨c, cells, x, y, h⟩
theorem PenC.same {H H' : Hp} {p c : Addr} {t u : Nat} (e : Same H H') (h : t ≤ u) (P : PenC H p c t) : PenC H' p c u := by
  obtain ⟨cells, x, y, h1, h2, h3, h4⟩ := P.ex
  exact ⟨cells, x, y, e _ _ h1, e _ _ h2, h3, by omega⟩
theorem PenC.at_c {H : Hp} {p c : Addr} {t : Nat} (h : PenC H p c t) : H c ≠ none := by
  obtain ⟨cells, x, y, h1, h2, _⟩ := h.ex
  rw [h2]; exact fun z => nomatch z
theorem PenC.upd {H : Hp} {p c : Addr} {t u : Nat} (P : PenC H p c t) {q : Addr} (h1 : q ≠ p) (h2 : q ≠ c) (h : t ≤ u) (o : HO) : PenC (upd H q o) p c u := by
  obtain ⟨cells, x, y, g1, g2, g3, g4⟩ := P.ex
  exact ⟨cells, x, y, by rw [upd_ne h1.symm]; exact g1, by rw [upd_ne h2.symm]; exact g2, g3, by omega⟩
/-! ### promises -/
def spSpread : Sp := fun vs H Q _ => ∃ (c a : Int), vs = [.int c, .int a] ∧ 0 ≤ a ∧ a < 2 ^ 30 ∧ ∀ (r : Int) (H' : Hp), Same H H' → Q (.int r) H'
def spOpen (K : PySem.W.Frag) : Sp := fun vs H Q _ => ∃ (a : Addr) (ns : List Int), vs = [.ref a] ∧ SqL K H a (ns.map V.int) ∧ ns.length ≤ 63 ∧ ∀ (p : Addr) (H' : Hp), H p = none → Same H H' → PenAt H' p 0 → Q (.ref p) H'
def spTake : Sp := fun vs H Q _ => ∃ (p : Addr) (n : Int) (t : Nat), vs = [.ref p, .int n] ∧ 0 < n ∧ n.natAbs < 2 ^ 8000 ∧ PenAt H p t ∧ t < 2 ^ 29 ∧ ∀ (m : Int) (H' : Hp), 0 ≤ m → m < n → But p H H' → PenAt H' p (t + 1) → Q (.int m) H'
def spTakeC : Sp := fun vs H Q _ => ∃ (p c : Addr) (n : Int) (t : Nat), vs = [.ref p, .int n] ∧ 0 < n ∧ n.natAbs < 2 ^ 8000 ∧ PenC H p c t ∧ t < 2 ^ 29 ∧ ∀ (m : Int) (H' : Hp), 0 ≤ m → m < n → But p H H' → PenC H' p c (t + 1) → Q (.int m) H'
section
variable {P : Program} {w : World} {K : PySem.W.Frag} {mg : Str → Option Value} {base : Heap}
def primesV : List V := [.int 2147483629, .int 2147483587, .int 2147483579, .int 2147483563, .int 2147483549, .int 2147483543, .int 2147483497, .int 2147483489] ++ [.int 2147483477, .int 2147483423, .int 2147483399, .int 2147483353, .int 2147483323]
theorem prime_at {j : Int} (h0 : 0 ≤ j) (h1 : j < 13) : ∃ q : Int, atI primesV j = some (.int q) ∧ 0 < q ∧ q < 2147483648 := by
  have h : j = 0 ∨ j = 1 ∨ j = 2 ∨ j = 3 ∨ j = 4 ∨ j = 5 ∨ j = 6 ∨ j = 7 ∨ j = 8 ∨ j = 9 ∨ j = 10 ∨ j = 11 ∨ j = 12 := by omega
  rcases h with rfl | rfl | rfl | rfl | rfl | rfl | rfl | rfl | rfl | rfl | rfl | rfl | rfl <;> exact ⟨_, rfl, by decide, by decide⟩
theorem mod_at {x : Int} : 0 ≤ x % 13 ∧ x % 13 < 13 := ⟨Int.emod_nonneg _ (by decide), Int.emod_lt_of_pos _ (by decide)⟩
theorem mod_lt {x q : Int} (h : 0 < q) (h2 : q < 2147483648) : 0 ≤ x % q ∧ x % q < 2147483648 := ⟨Int.emod_nonneg _ (by omega), by have := Int.emod_lt_of_pos x h; omega⟩
theorem scSpread : FnScope ["cell", "at", "primes", "one", "two", "three"] ["cell", "at"] (defScope sSpread) := ⟨rfl, rfl, rfl, by decide +kernel, rfl, by decide +kernel, by decide +kernel⟩
theorem pow_ok {i : Int} {j : Int} (hj : j = 3 ∨ j = 5) (h0 : 0 ≤ i) (h1 : i < 2 ^ 64) : CPow i j := by
  refine ⟨by omega, by omega, ?_⟩
  omega
theorem ok_spread {f : Addr} {fd : FuncData} (F : Fun K "_law_spread" "_law_spread" sSpread f fd) : FnOk P w K mg base CX0 1 f fd ["cell", "at"] spSpread := by
  refine F.ok scSpread (fun vs H Q E h => ?_) (fun cdv A outer s H vs Q E hr h => ?_)
  · obtain ⟨c, a, rfl, _⟩ := h
    rfl
  · obtain ⟨c, a, rfl, ha0, ha1, k⟩ := h
    refine ⟨_, pss_cons (ps_if (pt_cmpR op_ge (pv 0) (pe_op op_pow pe_int pe_int) (nomark _)) (pss_one (ps_ret (pv 0))) pss_nil)
      (pss_cons (ps_set (i := 2) scSpread.nd rfl (Or.inl rfl) (pe_lst (pa_cons pe_int (pa_cons pe_int (pa_cons pe_int (pa_cons pe_int (pa_cons pe_int (pa_cons pe_int (pa_cons pe_int (pa_cons pe_int pa_nil))))))))))
      (pss_cons (ps_set (i := 2) scSpread.nd rfl (Or.inl rfl) (pe_op op_cat (pv 2) (pe_lst (pa_cons pe_int (pa_cons pe_int (pa_cons pe_int (pa_cons pe_int (pa_cons pe_int pa_nil))))))))
      (pss_cons (ps_set (i := 3) scSpread.nd rfl (Or.inl rfl) (pe_op op_mod (pe_op op_pow (pe_op op_add (pe_op op_add (pe_op op_mul (pe_op op_mod (pv 0) pe_int) (pe_op op_add (pe_op op_mul pe_int (pv 1)) pe_int)) (pe_op op_mul (pv 1) pe_int)) pe_int) pe_int)
        (pe_ix ix_list (pv 2) (pe_op op_mod (pv 1) pe_int) (fun _ _ => rfl))))
      (pss_cons (ps_set (i := 4) scSpread.nd rfl (Or.inl rfl) (pe_op op_mod (pe_op op_pow (pe_op op_add (pe_op op_add (pe_op op_mul (pv 3) (pe_op op_add (pv 1) pe_int)) (pe_op op_mod (pv 0) pe_int)) pe_int) pe_int)
        (pe_ix ix_list (pv 2) (pe_op op_mod (pe_op op_add (pv 1) pe_int) pe_int) (fun _ _ => rfl))))
      (pss_cons (ps_set (i := 5) scSpread.nd rfl (Or.inl rfl) (pe_op op_mod (pe_op op_pow (pe_op op_add (pe_op op_add (pv 4) (pe_op op_mod (pv 3) pe_int)) (pv 1)) pe_int)
        (pe_ix ix_list (pv 2) (pe_op op_mod (pe_op op_add (pv 1) pe_int) pe_int) (fun _ _ => rfl))))
      (pss_one (ps_ret (pe_op op_add (pe_op op_mul (pe_op op_add (pe_op op_mul (pv 3) pe_int) (pv 4)) pe_int) (pv 5))))))))), ?_⟩
    refine ⟨_, rfl, _, _, rfl, rfl, ⟨by decide, by decide, by decide⟩, _, _, rfl, rfl, _, rfl, ite2 (fun _ => ⟨_, rfl, k _ _ (Same.refl H)⟩) (fun _ => ?_)⟩
    -- primes
    refine ⟨by decide, fun l1 n1 => ?_⟩
    refine ⟨_, rfl, by decide, fun l2 n2 => ?_⟩
    have l21 : l1 ≠ l2 := ne_of_none upd_same n2
    refine ⟨l1, l2, _, _, rfl, rfl, (by rw [upd_ne l21]; exact upd_same), upd_same, by decide, fun l3 n3 => ?_⟩
    -- one
    have c0 := Int.emod_nonneg c (show (1000000007 : Int) ≠ 0 by decide)
    have c1 := Int.emod_lt_of_pos c (show (0 : Int) < 1000000007 by decide)
    have b0 : 0 ≤ c % 1000000007 * (2 * a + 69069) := Int.mul_nonneg c0 (by omega)
    have b1 : c % 1000000007 * (2 * a + 69069) ≤ 1000000007 * (2 * 1073741824 + 69069) := Int.mul_le_mul (by omega) (by omega) (by omega) (by decide)
    obtain ⟨q1, a1, q10, q11⟩ := prime_at (mod_at (x := a)).1 mod_at.2
    refine ⟨_, rfl, _, _, rfl, rfl, (by show (0 : Int) < 1000000007; decide), _, rfl, _, _, rfl, rfl, .inl ⟨by decide, by decide⟩, _, _, rfl, rfl, _, _, rfl, rfl, .inl ⟨by omega, by omega⟩, _, rfl, _, _, rfl, rfl, .inl ⟨by omega, by omega⟩, _, _, rfl, rfl, _, _, rfl, rfl,
      _, _, rfl, rfl, pow_ok (.inl rfl) (by omega) (by omega), _, rfl, _, rfl, _, _, rfl, rfl, (by show (0 : Int) < 13; decide), l3, primesV, _, _, rfl, rfl, SqL.of upd_same, a1, _, _, rfl, rfl, q10, ?_⟩
    dsimp only
    generalize hz : (c % 1000000007 * (2 * a + 69069) + a * 40503 + 977) ^ (3 : Int).toNat % q1 = one
    have o1 := hz ▸ mod_lt (x := (c % 1000000007 * (2 * a + 69069) + a * 40503 + 977) ^ (3 : Int).toNat) q10 q11
    -- two
    obtain ⟨q2, a2, q20, q21⟩ := prime_at (mod_at (x := a + 5)).1 mod_at.2
    have d0 := Int.emod_nonneg c (show (65537 : Int) ≠ 0 by decide)
    have d1 := Int.emod_lt_of_pos c (show (0 : Int) < 65537 by decide)
    have e0 : 0 ≤ one * (a + 3) := Int.mul_nonneg o1.1 (by omega)
    have e1 : one * (a + 3) ≤ 2147483648 * (1073741824 + 3) := Int.mul_le_mul (by omega) (by omega) (by omega) (by decide)
    refine ⟨_, rfl, _, rfl, _, _, rfl, rfl, _, _, rfl, rfl, .inl ⟨by omega, by omega⟩, _, rfl, _, _, rfl, rfl, (by show (0 : Int) < 65537; decide), _, _, rfl, rfl, _, _, rfl, rfl,
      _, _, rfl, rfl, pow_ok (.inr rfl) (by omega) (by omega), _, rfl, _, rfl, _, _, rfl, rfl, _, _, rfl, rfl, (by show (0 : Int) < 13; decide), l3, primesV, _, _, rfl, rfl, SqL.of upd_same, a2, _, _, rfl, rfl, q20, ?_⟩
    dsimp only
    generalize hy : (one * (a + 3) + c % 65537 + 5) ^ (5 : Int).toNat % q2 = two
    have o2 := hy ▸ mod_lt (x := (one * (a + 3) + c % 65537 + 5) ^ (5 : Int).toNat) q20 q21
    -- three
    obtain ⟨q3, a3, q30, q31⟩ := prime_at (mod_at (x := a + 7)).1 mod_at.2
    have g0 := Int.emod_nonneg one (show (1009 : Int) ≠ 0 by decide)
    have g1 := Int.emod_lt_of_pos one (show (0 : Int) < 1009 by decide)
    refine ⟨_, rfl, _, rfl, _, _, rfl, rfl, (by show (0 : Int) < 1009; decide), _, _, rfl, rfl, _, rfl, _, _, rfl, rfl,
      _, _, rfl, rfl, pow_ok (.inl rfl) (by omega) (by omega), _, rfl, _, rfl, _, _, rfl, rfl, _, _, rfl, rfl, (by show (0 : Int) < 13; decide), l3, primesV, _, _, rfl, rfl, SqL.of upd_same, a3, _, _, rfl, rfl, q30, ?_⟩
    refine ⟨_, rfl, _, _, rfl, rfl, .inl ⟨by omega, by omega⟩, _, rfl, _, _, rfl, rfl, _, _, rfl, rfl, .inl ⟨by omega, by omega⟩, _, rfl, _, _, rfl, rfl, ?_⟩
    exact k _ _ (((Same.upd n1).trans (Same.upd n2)).trans (Same.upd n3))

theorem scTake : FnScope ["pen", "many", "at", "cell", "found"] ["pen", "many"] (defScope sTake) := ⟨rfl, rfl, rfl, by decide +kernel, rfl, by decide +kernel, by decide +kernel⟩
theorem nat_at {xs : List Int} {i : Int} (h0 : 0 ≤ i) (h1 : i < xs.length) : ∃ v : Int, atI (xs.map V.int) i = some (.int v) := by
  obtain ⟨j, rfl⟩ : ∃ j : Nat, i = (j : Int) := ⟨i.toNat, by omega⟩
  have hj : j < xs.length := by omega
  exact ⟨xs[j], atI_nat (by rw [List.getElem?_map, List.getElem?_eq_getElem hj]; rfl)⟩
theorem mapInt_len (xs : List Int) : ((xs.map V.int).length : Int) = (xs.length : Int) := by rw [List.length_map]
theorem ok_takeC {f fS : Addr} {fd fdS : FuncData} (F : Fun K "_law_take" "_law_take" sTake f fd) (ml : mg "len" = none) (FS : Fun K "_law_spread" "_law_spread" sSpread fS fdS) (bS : Binds K fdS ["cell", "at"] []) (gS : mg "_law_spread" = some (.ref fS)) :
    FnOk P w K mg base CX0 2 f fd ["pen", "many"] spTakeC := by
  have GS : FnOk P w K mg base CX0 1 fS fdS ["cell", "at"] spSpread := ok_spread FS
  refine F.ok scTake (fun vs H Q E h => ?_) (fun cdv A outer s H vs Q E hr h => ?_)
  · obtain ⟨p, c, n, t, rfl, _⟩ := h
    rfl
  · obtain ⟨p, c, n, t, rfl, n0, nb, PA, tb, k⟩ := h
    obtain ⟨cells, a1, r1, hp, hc, a10, a11⟩ := PA.ex
    have ncp : c ≠ p := pen_ne hp hc
    refine ⟨_, C8.pss_cut (ps_if (pt_cmpR op_lt (pe_ix ix_list (pv 0) pe_int (fun _ _ => rfl)) (pv 1) (nomark _))
        (pss_cons (ps_set (i := 2) scTake.nd rfl (Or.inl rfl) (pe_ix ix_list (pv 0) pe_int (fun _ _ => rfl)))
        (pss_cons (ps_set (i := 3) scTake.nd rfl (Or.inl rfl) pe_int)
        (C8.pss_cut (ps_if (pt_cmpR op_lt (pv 2) (pe_callB call_len_seq (by rfl) ml PySem.boot_len (pa_cons (pe_ix ix_list (pv 0) pe_int (fun _ _ => rfl)) pa_nil)) (nomark _))
            (pss_one (ps_set (i := 3) scTake.nd rfl (Or.inl rfl) (pe_ix ix_list (pe_ix ix_list (pv 0) pe_int (fun _ _ => rfl)) (pv 2) (fun _ _ => rfl))))
            (pss_one (ps_if (pt_cmpR op_gt (pe_callB call_len_seq (by rfl) ml PySem.boot_len (pa_cons (pe_ix ix_list (pv 0) pe_int (fun _ _ => rfl)) pa_nil)) pe_int (nomark _))
              (pss_one (ps_set (i := 3) scTake.nd rfl (Or.inl rfl) (pe_op op_mod
                (pe_ix ix_list (pe_ix ix_list (pv 0) pe_int (fun _ _ => rfl)) (pe_op op_mod (pe_op op_add (pe_op op_mul (pv 2) pe_int) pe_int) (pe_callB call_len_seq (by rfl) ml PySem.boot_len (pa_cons (pe_ix ix_list (pv 0) pe_int (fun _ _ => rfl)) pa_nil))) (fun _ _ => rfl))
                (pe_op op_add (pe_op op_pow pe_int pe_int) (pv 2))))) pss_nil)))
        (pss_cons (ps_asg (pe_op op_add (pv 2) pe_int) (pg_sub (pv 0) pe_int set_list))
        (pss_one (ps_asg (pe_call GS hr (by rfl) gS FS.kp bS .nil pass0 (pa_cons (pv 3) (pa_cons (pv 2) pa_nil))) (pg_sub (pv 0) pe_int set_list)))))))
        pss_nil)
      (pss_cons (ps_set (i := 4) scTake.nd rfl (Or.inl rfl) (pe_op op_mod (pe_ix ix_list (pv 0) pe_int (fun _ _ => rfl)) (pv 1)))
      (pss_cons (ps_asg (pe_op op_fdivW (pe_ix ix_list (pv 0) pe_int (fun _ _ => rfl)) (pv 1)) (pg_sub (pv 0) pe_int set_list))
      (pss_one (ps_ret (pv 4))))), ?_⟩
    -- what holds behind the if
    refine ⟨fun σ H2 => ∃ (x2 x3 : Option V) (a2 r2 : Int), σ = [some (.ref p), some (.int n), x2, x3, none] ∧ H2 p = some (.lst [.ref c, .int a2, .int r2]) ∧ H2 c = some (.lst (cells.map V.int)) ∧ 0 ≤ a2 ∧ a2 ≤ (t : Int) + 1 ∧ But p H H2, ?_, ?_⟩
    · refine ⟨_, rfl, p, _, 2, .int r1, rfl, rfl, SqL.of hp, atI_nat (j := 2) rfl, _, rfl, _, _, rfl, rfl, _, rfl, ite2 (fun _ => ?_) (fun _ => ?_)⟩
      · refine ⟨_, rfl, p, _, 1, .int a1, rfl, rfl, SqL.of hp, atI_nat (j := 1) rfl, ?_⟩
        -- at, cell
        refine ⟨fun σ H2 => ∃ z : Int, σ = [some (.ref p), some (.int n), some (.int a1), some (.int z), none] ∧ H2 = H, ?_, ?_⟩
        · refine ⟨_, rfl, _, rfl, p, _, 0, .ref c, rfl, rfl, SqL.of hp, atI_nat (j := 0) rfl, c, _, rfl, .inl (SqL.of hc), _, _, rfl, rfl, _, rfl, ite2 (fun e => ?_) (fun e => ?_)⟩
          · have e1 : a1 < ((cells.map V.int).length : Int) := of_decide_eq_true e
            rw [mapInt_len] at e1
            obtain ⟨v, hv⟩ := nat_at a10 e1
            exact ⟨_, rfl, p, _, 0, .ref c, rfl, rfl, SqL.of hp, atI_nat (j := 0) rfl, _, rfl, c, _, a1, .int v, rfl, rfl, SqL.of hc, hv, v, rfl, rfl⟩
          · refine ⟨_, rfl, p, _, 0, .ref c, rfl, rfl, SqL.of hp, atI_nat (j := 0) rfl, c, _, rfl, .inl (SqL.of hc), _, _, rfl, rfl, _, rfl, ite2 (fun e2 => ?_) (fun e2 => ?_)⟩
            · have e3 : 0 < ((cells.map V.int).length : Int) := of_decide_eq_true e2
              have e4 := e3
              rw [mapInt_len] at e4
              obtain ⟨v, hv⟩ := nat_at (Int.emod_nonneg (a1 * 5 + 3) (by omega : (cells.length : Int) ≠ 0)) (Int.emod_lt_of_pos (a1 * 5 + 3) e4)
              rw [← mapInt_len] at hv
              have h17 : (0 : Int) < 10 ^ (17 : Int).toNat + a1 := by
                have : (0 : Int) < 10 ^ (17 : Int).toNat := by decide
                omega
              exact ⟨_, rfl, p, _, 0, .ref c, rfl, rfl, SqL.of hp, atI_nat (j := 0) rfl, _, rfl, _, _, rfl, rfl, .inl ⟨by omega, by omega⟩, _, _, rfl, rfl, _, rfl, p, _, 0, .ref c, rfl, rfl, SqL.of hp, atI_nat (j := 0) rfl, c, _, rfl, .inl (SqL.of hc), _, _, rfl, rfl, e3,
                c, _, _, .int v, rfl, rfl, SqL.of hc, hv, _, _, rfl, rfl, ⟨by decide, by decide, by decide⟩, _, rfl, _, _, rfl, rfl, _, _, rfl, rfl, h17, _, rfl, rfl⟩
            · exact ⟨0, rfl, rfl⟩
        · rintro σ H2 ⟨z, rfl, rfl⟩
          refine ⟨_, rfl, _, _, rfl, rfl, _, rfl, p, _, _, 1, rfl, rfl, hp, rfl, ?_⟩
          refine ⟨_, rfl, _, rfl, z, a1, rfl, a10, by omega, fun r H3 e3 => ?_⟩
          have hp3 : H3 p = some (.lst [.ref c, .int (a1 + 1), .int r1]) := e3 _ _ upd_same
          refine ⟨_, rfl, p, _, _, 2, rfl, rfl, hp3, rfl, ?_⟩
          refine ⟨_, _, a1 + 1, r, rfl, upd_same, ?_, by omega, by omega, (But.upd.trans (But.of e3)).trans But.upd⟩
          rw [upd_ne ncp]
          exact e3 _ _ (by rw [upd_ne ncp]; exact hc)
      · exact ⟨none, none, a1, r1, rfl, hp, hc, a10, by omega, fun b o _ e => e⟩
    · rintro σ H2 ⟨x2, x3, a2, r2, rfl, hp2, hc2, a20, a21, bt⟩
      refine ⟨_, rfl, p, _, 2, .int r2, rfl, rfl, SqL.of hp2, atI_nat (j := 2) rfl, _, rfl, _, _, rfl, rfl, n0, ?_⟩
      refine ⟨_, rfl, p, _, 2, .int r2, rfl, rfl, SqL.of hp2, atI_nat (j := 2) rfl, _, rfl, _, _, rfl, rfl, wide_div n0 nb (by decide) (by decide), ?_⟩
      refine ⟨_, rfl, p, _, _, 2, rfl, rfl, hp2, rfl, ?_⟩
      exact ⟨_, rfl, k _ _ (Int.emod_nonneg _ (by omega)) (Int.emod_lt_of_pos _ n0) (bt.trans But.upd) ⟨cells, a2, r2 / n, upd_same, by rw [upd_ne ncp]; exact hc2, a20, by omega⟩⟩

theorem ok_take {f fS : Addr} {fd fdS : FuncData} (F : Fun K "_law_take" "_law_take" sTake f fd) (ml : mg "len" = none) (FS : Fun K "_law_spread" "_law_spread" sSpread fS fdS) (bS : Binds K fdS ["cell", "at"] []) (gS : mg "_law_spread" = some (.ref fS)) :
    FnOk P w K mg base CX0 2 f fd ["pen", "many"] spTake := (ok_takeC F ml FS bS gS).imp fun vs H Q E h => by
  obtain ⟨p, n, t, h1, h2, h3, PA, h4, k⟩ := h
  obtain ⟨c, PC⟩ := PA.c
  exact ⟨p, c, n, t, h1, h2, h3, PC, h4, fun m H' a b d e => k m H' a b d e.any⟩
theorem scOpen : FnScope ["script", "cells", "k", "cell"] ["script"] (defScope sOpen) := ⟨rfl, rfl, rfl, by decide +kernel, rfl, by decide +kernel, by decide +kernel⟩
theorem cut_ints (ns : List Int) (lo hi : Option Int) : ∃ ms : List Int, cutV (ns.map V.int) lo hi = ms.map V.int ∧ ms = (ns.drop (HT.sIx ns.length 0 lo)).take (HT.sIx ns.length ns.length hi - HT.sIx ns.length 0 lo) := by
  refine ⟨_, ?_, rfl⟩
  unfold cutV
  rw [List.length_map, List.map_take, List.map_drop]
theorem sIx_nat (n : Nat) (d : Nat) (k : Nat) : HT.sIx n d (some (k : Int)) = min k n := by
  unfold HT.sIx
  simp only
  rw [if_neg (by omega)]
  omega
theorem cut12 (ns : List Int) : ∃ ms : List Int, cutV (ns.map V.int) none (some 12) = ms.map V.int ∧ ms.length = min 12 ns.length := by
  obtain ⟨ms, h1, h2⟩ := cut_ints ns none (some 12)
  refine ⟨ms, h1, ?_⟩
  rw [h2, List.length_take, List.length_drop]
  have a1 : HT.sIx ns.length 0 none = 0 := rfl
  have a2 : HT.sIx ns.length ns.length (some 12) = min 12 ns.length := sIx_nat _ _ 12
  rw [a1, a2]; omega
theorem cut63 (ns : List Int) : ∃ ms : List Int, cutV (ns.map V.int) (some 12) (some 63) = ms.map V.int ∧ ms.length ≤ ns.length - 12 := by
  obtain ⟨ms, h1, h2⟩ := cut_ints ns (some 12) (some 63)
  refine ⟨ms, h1, ?_⟩
  rw [h2, List.length_take, List.length_drop]
  have a1 : HT.sIx ns.length 0 (some 12) = min 12 ns.length := sIx_nat _ _ 12
  have a2 : HT.sIx ns.length ns.length (some 63) = min 63 ns.length := sIx_nat _ _ 63
  rw [a1, a2]; omega
theorem set_ints (ns : List Int) (j : Nat) (v : Int) : (ns.map V.int).set j (.int v) = (ns.set j v).map V.int := by rw [List.map_set]
theorem ok_open {f : Addr} {fd : FuncData} (F : Fun K "_law_open" "_law_open" sOpen f fd) (m1 : mg "list" = none) (m2 : mg "enumerate" = none) : FnOk P w K mg base CX0 1 f fd ["script"] (spOpen K) := by
  refine F.ok scOpen (fun vs H Q E h => ?_) (fun cdv A outer s H vs Q E hr h => ?_)
  · obtain ⟨a, ns, rfl, _⟩ := h
    rfl
  · obtain ⟨a, ns, rfl, hS, hl, k⟩ := h
    refine ⟨_, pss_cons (ps_set (i := 1) scOpen.nd rfl (Or.inl rfl) (pe_callTy call_list_of (by rfl) m1 boot_list (pa_cons (pe_slice sl_list (pv 0) po_none (po_some pe_int)) pa_nil)))
      (pss_cons (ps_for PassesOwn.never rfl (pi_enum (by rfl) m2 (pa_cons (pe_slice sl_list (pv 0) (po_some pe_int) (po_some pe_int)) pa_nil))
        (pg_tup (by rfl) (pgs_cons (pg_name (i := 2) scOpen.nd rfl (Or.inl rfl)) (pgs_cons (pg_name (i := 3) scOpen.nd rfl (Or.inl rfl)) pgs_nil)))
        (pss_one (ps_asg (pe_op op_add (pe_ix ix_list (pv 1) (pe_op op_mod (pv 2) pe_int) (fun _ _ => rfl)) (pv 3)) (pg_sub (pv 1) (pe_op op_mod (pv 2) pe_int) set_list))))
      (pss_one (ps_ret (pe_lst (pa_cons (pv 1) (pa_cons pe_int (pa_cons pe_int pa_nil))))))), ?_⟩
    obtain ⟨ms, e1, l1⟩ := cut12 ns
    obtain ⟨us, e2, l2⟩ := cut63 ns
    refine ⟨_, rfl, 12, rfl, a, _, rfl, hS, fun p1 n1 => ?_⟩
    rw [e1]
    refine ⟨p1, _, rfl, .inl (SqL.of upd_same), fun c nc => ?_⟩
    have s1 : Same H (upd (upd H p1 (.lst (ms.map V.int))) c (.lst (ms.map V.int))) := (Same.upd n1).trans (Same.upd nc)
    refine ⟨_, rfl, 12, rfl, 63, rfl, a, _, rfl, s1.seq hS, fun p2 n2 => ?_⟩
    rw [e2]
    have nc2 : c ≠ p2 := ne_of_none upd_same n2
    refine ⟨p2, us.map V.int, rfl, SqL.of upd_same, for_it (walk_enum (K := K) (a := p2) (xs := us.map V.int)) (fun i σ H2 => ∃ (x2 x3 : Option V) (cs : List Int), σ = [some (.ref a), some (.ref c), x2, x3] ∧ H2 c = some (.lst (cs.map V.int)) ∧ cs.length = ms.length ∧
        (∀ b o, b ≠ c → upd (upd (upd H p1 (.lst (ms.map V.int))) c (.lst (ms.map V.int))) p2 (.lst (us.map V.int)) b = some o → H2 b = some o)) ?_ ?_ ?_ ?_⟩
    · exact ⟨none, none, ms, rfl, by rw [upd_ne nc2]; exact upd_same, rfl, fun _ _ _ e => e⟩
    · rintro i σ H2 hi ⟨x2, x3, cs, rfl, hc, hl, hk⟩
      exact SqL.of (hk _ _ nc2.symm upd_same)
    · rintro i x σ H2 H3 hi ⟨x2, x3, cs, rfl, hc, hlc, hk⟩ ⟨T, y, z, rfl, hT, rfl, ey, ez⟩
      obtain rfl : V.int ((i : Nat) : Int) = y := Option.some.inj ey
      have hi' : i < us.length := by rw [List.length_map] at hi; exact hi
      obtain ⟨v, rfl⟩ : ∃ v, z = V.int v := by
        have ez' : (us.map V.int)[i]? = some z := ez
        rw [List.getElem?_map, List.getElem?_eq_getElem hi'] at ez'
        exact ⟨us[i], (Option.some.inj ez').symm⟩
      have m12 : ms.length = 12 := by omega
      have hcT : c ≠ T := ne_of_none hc hT
      have b0 := Int.emod_nonneg ((i : Nat) : Int) (show (12 : Int) ≠ 0 by decide)
      have b1 := Int.emod_lt_of_pos ((i : Nat) : Int) (show (0 : Int) < 12 by decide)
      obtain ⟨u, hu⟩ := nat_at (xs := cs) b0 (by omega)
      refine ⟨T, _, rfl, SqT.of upd_same, rfl, _, _, rfl, _, _, rfl, rfl, ?_⟩
      refine ⟨_, rfl, _, rfl, _, _, rfl, rfl, (by show (0 : Int) < 12; decide), c, _, _, _, rfl, rfl, SqL.of (by rw [upd_ne hcT]; exact hc), hu, _, rfl, _, _, rfl, rfl, ?_⟩
      have hj : ixN (cs.map V.int).length (((i : Nat) : Int) % 12) = some (((i : Nat) : Int) % 12).toNat := by
        unfold ixN
        rw [List.length_map, if_pos b0, if_pos (by omega)]
      refine ⟨_, rfl, _, rfl, _, _, rfl, rfl, (by show (0 : Int) < 12; decide), c, _, _, _, rfl, rfl, (by rw [upd_ne hcT]; exact hc), hj, ?_⟩
      refine ⟨_, _, cs.set (((i : Nat) : Int) % 12).toNat (u + v), rfl, by rw [upd_same, set_ints], by rw [List.length_set]; exact hlc, fun b o hb e => ?_⟩
      rw [upd_ne hb, upd_ne (ne_of_none (hk b o hb e) hT)]
      exact hk b o hb e
    · rintro σ H2 ⟨x2, x3, cs, rfl, hc, hlc, hk⟩
      refine ⟨_, rfl, (by show 3 ≤ sizeLine; decide), fun p np => ?_⟩
      have sH : Same H H2 := fun b o e => hk b o (ne_of_none (Same.upd n1 b o e) nc) ((s1.trans (Same.upd n2)) b o e)
      have ncp : c ≠ p := ne_of_none hc np
      exact k p _ (sH.free np) (sH.trans (Same.upd np)) ⟨c, cs, 0, 0, upd_same, by rw [upd_ne ncp]; exact hc, by decide, by decide⟩
end
end My

namespace My
open PySem PySem.Spec PyProof.Rows L2
/-! ### t[::-1] -/
section
variable {prog : Program} {w : World} {A : Around} {E : Value → Shared → Prop} {s : Shared}
theorem backwards (xs : Array Value) : ((List.range xs.size).filterMap fun (m : Nat) => xs[((xs.size : Int) - 1 + (m : Int) * -1).toNat]?).toArray = xs.toList.reverse.toArray := by
  have e1 : (List.range xs.size).filterMap (fun (m : Nat) => xs[((xs.size : Int) - 1 + (m : Int) * -1).toNat]?) = ((List.range xs.size).map fun k => xs.size - 1 - k).filterMap (xs[·]?) := by
    rw [List.filterMap_map]
    congr 1
    funext m
    show _ = xs[xs.size - 1 - m]?
    have : ((xs.size : Int) - 1 + (m : Int) * -1).toNat = xs.size - 1 - m := by omega
    rw [this]
  rw [e1, PySem.W.krv_range, List.filterMap_reverse, PySem.W.krv_all]
theorem getItem_back {t sl : Addr} {items : Array Value} {tk : Tok} {Q : Value → Shared → Prop} (ht : IsTup s.heap t items) (hs : s.heap.IsSliceOf sl .none .none (.int (-1) tk)) (hsz : items.size ≤ sizeLine)
    (q : Q (.ref s.heap.objs.size) { s with heap := s.heap.push { cls := .type "tuple", data := .seq items.toList.reverse.toArray } }) : wpAny (model prog w) A (getItem (.ref t) (.ref sl)) Q E s := by
  have hfit : sizeOk (.seq items.toList.reverse.toArray) := by show items.toList.reverse.toArray.size ≤ sizeLine; simpa using hsz
  obtain ⟨ob, hob, hcl, hdat⟩ := id hs
  have hT : s.TypeIs (.ref sl) "slice" := ⟨ob, hob, hcl⟩
  unfold getItem; try with_reducible refine wpAny_holding ?_
  first | refine wpAny_bind (wpAny_pure ?_) | skip
  refine wpAny_bind (wpAny_sequenceKey ht.typeIs (by decide) ?_); refine wpAny_bind (wpAny_callSpecial?_slot (name := Str.ofString "__getitem__") ht.typeIs slot_tuple_getitem (wpAny_call_entry slot_tuple_getitem ht.typeIs entry_tuple_getitem ?_ (args_tuple_getitem _ _)))
  show wpAny _ _ (Builtin.Tuple.tupleItemsOf (.ref t) >>= _) _ _ s; refine wpAny_bind (tupleItemsOf_ ht ?_); refine wpAny_bind (wpAny_typeOf hT ?_); rw [if_pos (by decide)]
  have step : ∀ {R : Int × Int × Nat → Shared → Prop}, R ((items.size : Int) - 1, -1, items.size) s → wpAny (model prog w) A.in1 (Builtin.Slice.sliceApplied (.ref sl) (pure (items.size : Int))) R E s := by
    intro R hR; unfold Builtin.Slice.sliceApplied Builtin.Slice.sliceFields
    refine wpAny_bind (wpAny_bind (wpAny_field hob hdat (x := .none) rfl (wpAny_bind (wpAny_field hob hdat (x := .none) rfl (wpAny_bind (wpAny_field hob hdat (x := .int (-1) tk) rfl (wpAny_pure ?_)))))))
    refine wpAny_bind (slicePart_int ?_); show wpAny _ _ (if ((-1 : Int) == 0) = true then _ else _) _ _ s; rw [if_neg (by decide)]
    refine wpAny_bind (PyProof.Rows.slicePart_none (wpAny_bind (PyProof.Rows.slicePart_none (wpAny_bind (wpAny_pure ?_)))))
    show wpAny _ _ (match Builtin.Slice.sliceAdjust none none (-1) (items.size : Int) with | (lo, hi) => pure (lo, (-1 : Int), Builtin.Slice.slicePlaces lo hi (-1))) _ _ s
    have e1 : Builtin.Slice.sliceAdjust none none (-1) (items.size : Int) = ((items.size : Int) - 1, -1) := rfl
    rw [e1]; show wpAny _ _ (pure ((items.size : Int) - 1, (-1 : Int), Builtin.Slice.slicePlaces ((items.size : Int) - 1) (-1) (-1))) _ _ s
    have e2 : Builtin.Slice.slicePlaces ((items.size : Int) - 1) (-1) (-1) = items.size := by
      unfold Builtin.Slice.slicePlaces
      have h1 : ¬ ((-1 : Int) > 0) := by decide
      simp only [h1, if_false]
      by_cases h : (items.size : Int) - 1 > -1
      · rw [if_pos h, show (- -1 : Int) = 1 by decide, Int.ediv_one]; omega
      · rw [if_neg h]; omega
    rw [e2]; exact wpAny_pure hR
  refine wpAny_bind (step ?_)
  show wpAny _ _ (if (((items.size : Int) - 1) == 0 && (-1 : Int) == 1 && items.size == items.size) = true then _ else _) _ _ s
  rw [if_neg (by rw [show ((-1 : Int) == 1) = false by decide, Bool.and_false, Bool.false_and]; decide), backwards]
  first
    | exact wpAny_bind (m := Builtin.Tuple.tupleExact _) (wpAny_newObj_type (wpAny_pure ⟨_, rfl, wpAny_pure q⟩) hfit)
    | exact wpAny_bind (m := Builtin.Tuple.tupleExact _) (wpAny_newObj_type (wpAny_bind (wpAny_pure (wpAny_pure ⟨_, rfl, wpAny_pure q⟩))) hfit)
    | exact wpAny_bind (wpAny_bind (m := Builtin.Tuple.tupleExact _) (wpAny_newObj_type (wpAny_pure (wpAny_pure ⟨_, rfl, wpAny_pure q⟩)) hfit))
    | exact wpAny_bind (wpAny_bind (m := Builtin.Tuple.tupleExact _) (wpAny_newObj_type (wpAny_pure ⟨_, rfl, wpAny_pure q⟩) hfit))
end
section
variable {X : Cx}
def tRevT (K : PySem.W.Frag) (te : TE) : TE := fun σ H Q => te σ H fun x H1 => ∃ a xs, x = .ref a ∧ SqT K H1 a xs ∧ ∀ p, H1 p = none → Q (.ref p) (upd H1 p (.tup xs.reverse))
theorem pe_revT {e : Expr} {te : TE} {k : Nat} {p1 p2 p3 pos : Pos} (he : PE X e te) : PE X (.Subscript e (.Slice none none (some (.UnaryOp .USub (.Constant (.int 1) k p1) p2)) p3) pos) (tRevT X.K te) := by
  refine ⟨fun pins s σ H Q I h => ?_⟩
  refine Subscript_ (thn (he.run pins s σ H _ I h) fun v s1 ⟨x, H1, I1, r1, q1⟩ => ?_)
  obtain ⟨a, xs, ex, hx, q⟩ := q1
  subst ex; cases r1
  have hst : PO X (some (.UnaryOp .USub (.Constant (.int 1) k p1) p2)) (tPart (tUn (rU fun i => .int (-i)) (tC (.int 1)))) := po_some (pe_un un_neg pe_int)
  refine wpAny_Slice (thn (po_none.run pins s1 σ H1 (fun o H2 => o = none ∧ H2 = H1) I1 ⟨rfl, rfl⟩) fun vl s2 ⟨l, H2, I2, pl, el, e2⟩ => ?_)
  subst el e2
  refine thn (po_none.run pins s2 σ H2 (fun o H3 => o = none ∧ H3 = H2) I2 ⟨rfl, rfl⟩) fun vu s3 ⟨u, H3, I3, pu, eu, e3⟩ => ?_
  subst eu e3
  refine thn (hst.run pins s3 σ H3 (fun o H4 => o = some (-1) ∧ H4 = H3) I3 ⟨1, rfl, -1, rfl, rfl, rfl⟩) fun vs s4 ⟨o, H4, I4, ps, eo, e4⟩ => ?_
  subst eo e4
  cases pl; cases pu; cases ps with
  | int i tk =>
  have J : Inv X pins σ H4 { s4 with heap := s4.heap.push { cls := .type "slice", data := .fields #[.none, .none, .int (-1) tk] } } := I4.kept (t' := s4.toks) fun b ob q => Heap.get?_push_of_some _ q
  obtain ⟨its, r, ht, hz⟩ := J.tuple hx
  have hl := r.length
  show wpAny (model X.prog X.w) X.A (subscriptTail e (.Slice none none (some (.UnaryOp .USub (.Constant (.int 1) k p1) p2)) p3) (.ref a) (.ref s4.heap.objs.size)) (EP X pins σ Q) X.xe { s4 with heap := s4.heap.push { cls := .type "slice", data := .fields #[.none, .none, .int (-1) tk] } }
  refine tail_any (ops := [.ref a, .ref s4.heap.objs.size]) ht.typeIs (slot_tuple_getitem.lookup) ?_ (by with_unfolding_all rfl)
  refine getItem_back ht (Heap.IsSliceOf.new _ .none .none (.int (-1) tk)) (by rw [List.size_toArray]; omega) ?_
  refine ⟨.ref _, _, J.laid (t' := s4.toks) (o := .tup xs.reverse) (fun b ob q => Heap.get?_push_of_some _ q) (Nat.le_refl _) ?_, rfl, q _ (J.hok.fresh (Nat.le_refl _))⟩
  exact ⟨by rw [List.length_reverse]; exact hz, _, r.reverse, IsTup.new _ _⟩
end
/-! ### repr -/
section
variable {X : Cx}
def rRepr (K : PySem.W.Frag) : List V → Hp → VK → Prop := fun xs H Q => ∃ (v : V) (d : PyData) (G : Hp), xs = [v] ∧ Same G H ∧ Dq K G v d ∧ d.showable = true ∧ (d.hasDict = true → hasList d = false) ∧ d.depth ≤ 100 ∧ d.shown.length ≤ sizeLine ∧ Q (.str d.shown) H
theorem cr_repr (hg : X.A.guards = some []) (hu : X.A.units + 111 < cLine) : CallR X (.builtin "repr") (rRepr X.K) := by
  intro pins s σ H xs us Q I r h
  obtain ⟨v, d, G, rfl, e, h, hs, hm, hd, hz, q⟩ := h
  have h' := h.mono e
  have key : ∀ a : Addr, us = [.ref a] → RelV v (.ref a) → wpAny (model X.prog X.w) X.A (call (.builtin "repr") us) (EP X pins σ Q) X.xe s := fun a ea ra => by
    subst ea
    obtain ⟨as, hr, hn⟩ := Dq.reads I d v _ h' ra
    exact repr_of_reads' hr hs (fun z => hn (hm z)) hg (by omega) (fun _ _ e => e) (fun h2 u tk hk => ⟨.str _, H, I.kept hk, ⟨_, rfl⟩, q⟩) hz
  cases r with
  | cons r0 rr =>
    cases rr
    cases h with
    | non => cases r0; exact PySem.P.repr_of_none ⟨.str _, H, I.tok _, ⟨_, rfl⟩, q⟩
    | bl b => cases r0; exact PySem.P.repr_of_bool ⟨.str _, H, I.tok _, ⟨_, rfl⟩, q⟩
    | int i =>
      obtain ⟨t, rfl⟩ := r0
      exact PySem.P.repr_of_int (by simpa [PyData.showable] using hs) ⟨.str _, H, I.tok _, ⟨_, rfl⟩, q⟩
    | str x =>
      obtain ⟨t, rfl⟩ := r0
      exact PySem.P.repr_of_str ⟨.str _, H, I.tok _, ⟨_, rfl⟩, q⟩ hz
    | lst _ _ => cases r0; exact key _ rfl rfl
    | tup _ _ => cases r0; exact key _ rfl rfl
    | dct _ _ _ => cases r0; exact key _ rfl rfl
end
/-! ### data made by an expression -/
structure Nw (G H G' H' : Hp) : Prop where
  gg : Same G G'
  gh : Same G' H'
  hh : Same H H'
  old : ∀ b, H b ≠ none → G' b = G b
theorem Nw.refl {G H : Hp} (e : Same G H) : Nw G H G H := ⟨Same.refl _, e, Same.refl _, fun _ _ => rfl⟩
theorem Nw.trans {G H G1 H1 G2 H2 : Hp} (a : Nw G H G1 H1) (b : Nw G1 H1 G2 H2) : Nw G H G2 H2 := by
  refine ⟨a.gg.trans b.gg, b.gh, a.hh.trans b.hh, fun c h => ?_⟩
  have h1 : H1 c ≠ none := by
    cases q : H c with
    | none => exact absurd q h
    | some o => rw [a.hh c o q]; exact fun z => nomatch z
  rw [b.old c h1, a.old c h]
theorem Nw.mk1 {G H : Hp} (e : Same G H) {p : Addr} (n : H p = none) (o : HO) : Nw G H (upd G p o) (upd H p o) := by
  refine ⟨Same.upd (e.free n), fun b u h => ?_, Same.upd n, fun b h => upd_ne (fun z => h (by rw [z]; exact n))⟩
  by_cases hb : b = p
  · subst hb; rw [upd_same] at h ⊢; exact h
  · rw [upd_ne hb] at h ⊢; exact e b u h
theorem PE.imp {X : Cx} {e : Expr} {t t' : TE} (h : PE X e t) (i : ∀ σ H Q, t' σ H Q → t σ H Q) : PE X e t' := ⟨fun pins s σ H Q I q => h.run pins s σ H Q I (i σ H Q q)⟩
theorem PA.imp {X : Cx} {es : List Expr} {t t' : TA} (h : PA X es t) (i : ∀ σ H Q, t' σ H Q → t σ H Q) : PA X es t' := ⟨fun pos pins s σ H Q I q => h.run pos pins s σ H Q I (i σ H Q q)⟩
def tDc (K : PySem.W.Frag) (d : PyData) : TE := fun _ H Q => ∃ G, Same G H ∧ ∀ v G' H', Nw G H G' H' → Dq K G' v d → Q v H'
def tDcs (K : PySem.W.Frag) (ds : List PyData) : TA := fun _ H Q => ∃ G, Same G H ∧ ∀ vs G' H', Nw G H G' H' → DqAll K G' vs ds → Q vs H'
section
variable {X : Cx} {pos : Pos}
theorem dc_int {i : Int} {j : Nat} : PE X (.Constant (.int i) j pos) (tDc X.K (.int i)) := PE.imp pe_int fun _ _ _ ⟨_, e, k⟩ => k _ _ _ (Nw.refl e) (.int i)
theorem dc_str {x : Str} {j : Nat} : PE X (.Constant (.str x) j pos) (tDc X.K (.str x)) := PE.imp pe_str fun _ _ _ ⟨_, e, k⟩ => k _ _ _ (Nw.refl e) (.str x)
theorem dc_bl {b : Bool} {j : Nat} : PE X (.Constant (.bool b) j pos) (tDc X.K (.bool b)) := PE.imp pe_bl fun _ _ _ ⟨_, e, k⟩ => k _ _ _ (Nw.refl e) (.bl b)
theorem dc_non {j : Nat} : PE X (.Constant .none j pos) (tDc X.K .none) := PE.imp pe_non fun _ _ _ ⟨_, e, k⟩ => k _ _ _ (Nw.refl e) .non
theorem dc_neg {i : Int} {j : Nat} {p : Pos} : PE X (.UnaryOp .USub (.Constant (.int i) j p) pos) (tDc X.K (.int (-i))) := PE.imp (pe_un un_neg pe_int) fun _ _ _ ⟨_, e, k⟩ => ⟨i, rfl, k _ _ _ (Nw.refl e) (.int _)⟩
theorem dc_pow {i j : Int} {a b : Nat} {p q : Pos} (h : CPow i j) : PE X (.BinOp (.Constant (.int i) a p) .Pow (.Constant (.int j) b q) pos) (tDc X.K (.int (i ^ j.toNat))) :=
  PE.imp (pe_op op_pow pe_int pe_int) fun _ _ _ ⟨_, e, k⟩ => ⟨i, j, rfl, rfl, h, k _ _ _ (Nw.refl e) (.int _)⟩
theorem das_nil : PA X [] (tDcs X.K []) := PA.imp pa_nil fun _ _ _ ⟨_, e, k⟩ => k _ _ _ (Nw.refl e) .nil
theorem das_cons {e : Expr} {es : List Expr} {d : PyData} {ds : List PyData} (h1 : PE X e (tDc X.K d)) (h2 : PA X es (tDcs X.K ds)) (hs : starEach (e :: es) X.env = (false, eval e X.env) :: starEach es X.env := by rfl) : PA X (e :: es) (tDcs X.K (d :: ds)) :=
  PA.imp (pa_cons h1 h2 hs) fun _ _ _ ⟨G, e, k⟩ => ⟨G, e, fun _ G1 _ n1 d1 => ⟨G1, n1.gh, fun _ _ _ n2 d2 => k _ _ _ (n1.trans n2) (.cons (d1.mono n2.gg) d2)⟩⟩
theorem dc_tup {es : List Expr} {ds : List PyData} {x1} (h : PA X es (tDcs X.K ds)) (hl : ds.length ≤ sizeLine) : PE X (.Tuple es x1 pos) (tDc X.K (.tuple ds)) :=
  PE.imp (pe_tup h) fun _ _ _ ⟨G, e, k⟩ => ⟨G, e, fun vs G1 H1 n1 d1 => ⟨by rw [d1.len]; exact hl, fun p np => k _ _ _ (n1.trans (Nw.mk1 n1.gh np (.tup vs))) (.tup upd_same (d1.mono (Nw.mk1 n1.gh np (.tup vs)).gg))⟩⟩
theorem dc_lst {es : List Expr} {ds : List PyData} (h : PA X es (tDcs X.K ds)) (hl : ds.length ≤ sizeLine) : PE X (.List es pos) (tDc X.K (.list ds)) :=
  PE.imp (pe_lst h) fun _ _ _ ⟨G, e, k⟩ => ⟨G, e, fun vs G1 H1 n1 d1 => ⟨by rw [d1.len]; exact hl, fun p np => k _ _ _ (n1.trans (Nw.mk1 n1.gh np (.lst vs))) (.lst upd_same (d1.mono (Nw.mk1 n1.gh np (.lst vs)).gg))⟩⟩
theorem dc_dict0 : PE X (.Dict [] [] pos) (tDc X.K (.dict [])) :=
  PE.imp pe_dnewK fun _ _ _ ⟨G, e, k⟩ => fun p np => k _ _ _ (Nw.mk1 e np (.dK [])) (.dct upd_same .nil .nil)
theorem dc_dict01 {a b c d : Nat} {p1 p2 p3 p4 : Pos} : PE X (.Dict [some (.Constant (.int 0) a p1), some (.Constant (.int 1) b p2)] [.Constant (.int 1) c p3, .Constant (.int 1) d p4] pos) (tDc X.K (.dict [(.int 0, .int 1), (.int 1, .int 1)])) := by
  refine PE.imp (pe_disp (pps_cons pe_int pe_int (pps_cons pe_int pe_int pps_nil)) rfl rfl (by simp) (by show 2 ≤ 15; decide)) fun _ H Q ⟨G, e, k⟩ => fun p np => ?_
  refine ⟨upd_same, [(.inl 0, .int 1), (.inl 1, .int 1)], rfl, by decide, ?_⟩
  rw [upd_upd]
  exact k _ _ _ (Nw.mk1 e np (.dK [(.inl 0, .int 1), (.inl 1, .int 1)])) (.dct upd_same (.cons (.int _) (.cons (.int _) .nil)) (.cons (.int _) (.cons (.int _) .nil)))
end
/-! ### types of data -/
def tyN : PyData → String
  | .none => "NoneType"
  | .bool _ => "bool"
  | .int _ => "int"
  | .str _ => "str"
  | .list _ => "list"
  | .tuple _ => "tuple"
  | .dict _ => "dict"
theorem Dq.ty {K : PySem.W.Frag} {G H : Hp} (e : Same G H) : ∀ {v : V} {d : PyData}, Dq K G v d → TyX K H v (.type (tyN d))
  | _, _, .non => .base .non
  | _, _, .bl b => .base (.bl b)
  | _, _, .int i => .base (.int i)
  | _, _, .str x => .base (.str x)
  | _, _, .lst h _ => .base (.lst (e _ _ h))
  | _, _, .tup h _ => .base (.tup (e _ _ h))
  | _, _, .dct h _ _ => .base (.dK (e _ _ h))
def isT (T : String) (d : PyData) : Bool := tyN d == T
theorem kit_int : ∀ d : PyData, kitB (tyN d) "int" = some (isT "int" d || isT "bool" d)
  | .none => by decide +kernel
  | .bool _ => (by decide +kernel : kitB "bool" "int" = some true)
  | .int _ => (by decide +kernel : kitB "int" "int" = some true)
  | .str _ => (by decide +kernel : kitB "str" "int" = some false)
  | .list _ => (by decide +kernel : kitB "list" "int" = some false)
  | .tuple _ => (by decide +kernel : kitB "tuple" "int" = some false)
  | .dict _ => (by decide +kernel : kitB "dict" "int" = some false)
theorem kit_bool : ∀ d : PyData, kitB (tyN d) "bool" = some (isT "bool" d)
  | .none => by decide +kernel
  | .bool _ => (by decide +kernel : kitB "bool" "bool" = some true)
  | .int _ => (by decide +kernel : kitB "int" "bool" = some false)
  | .str _ => (by decide +kernel : kitB "str" "bool" = some false)
  | .list _ => (by decide +kernel : kitB "list" "bool" = some false)
  | .tuple _ => (by decide +kernel : kitB "tuple" "bool" = some false)
  | .dict _ => (by decide +kernel : kitB "dict" "bool" = some false)
theorem kit_tuple : ∀ d : PyData, kitB (tyN d) "tuple" = some (isT "tuple" d)
  | .none => by decide +kernel
  | .bool _ => (by decide +kernel : kitB "bool" "tuple" = some false)
  | .int _ => (by decide +kernel : kitB "int" "tuple" = some false)
  | .str _ => (by decide +kernel : kitB "str" "tuple" = some false)
  | .list _ => (by decide +kernel : kitB "list" "tuple" = some false)
  | .tuple _ => (by decide +kernel : kitB "tuple" "tuple" = some true)
  | .dict _ => (by decide +kernel : kitB "dict" "tuple" = some false)
theorem isi_read {K : PySem.W.Frag} {G H : Hp} {v : V} {d : PyData} {T : String} {b : Bool} {Q : VK} (e : Same G H) (h : Dq K G v d) (hk : kitB (tyN d) T = some b) (q : Q (.bl b) H) : rIsi K [v, .ty T] H Q :=
  ⟨v, .ty T, .type (tyN d), .type T, b, rfl, .ty T, h.ty e, kit_ty hk, q⟩
theorem PenAt.some {H : Hp} {p : Addr} {t : Nat} (h : PenAt H p t) : H p ≠ none := by
  obtain ⟨c, cells, x, y, h1, _⟩ := h.ex
  rw [h1]; exact fun z => nomatch z
theorem pen_not {H : Hp} {p l : Addr} {t : Nat} (h : PenAt H p t) (n : H l = none) : l ≠ p := fun z => h.some (by rw [← z]; exact n)
theorem keep_ne {H H1 : Hp} (e : Same H H1) {c : Addr} (h : H c ≠ none) : H1 c ≠ none := by
  cases z : H c with
  | none => exact absurd z h
  | some o => rw [e c o z]; exact fun y => nomatch y
theorem lst_new {G H G1 H1 : Hp} (m : Nw G H G1 H1) {q : Addr} (n : H1 q = none) (o : HO) : Nw G H G1 (upd H1 q o) :=
  ⟨m.gg, m.gh.trans (Same.upd n), m.hh.trans (Same.upd n), m.old⟩
theorem same_but {G H H' : Hp} {p : Addr} (e : Same G H) (n : G p = none) (b : But p H H') : Same G H' := fun a o h => b a o (ne_of_none h n) (e a o h)
theorem ifF {c : Bool} {A B : Prop} (h : c = false) (q : B) : if c = true then A else B := by rw [h]; exact iteF q
theorem ifT {c : Bool} {A B : Prop} (h : c = true) (q : A) : if c = true then A else B := by rw [h]; exact iteT q
theorem some_ne {H : Hp} {b : Addr} {o : HO} (h : H b = some o) : H b ≠ none := by rw [h]; exact fun z => nomatch z
theorem same0 (H : Hp) : Same (fun _ => none) H := fun _ _ h => nomatch h
/-! ### the law's own call: what runs around it is known (no repr is under way) -/
def AtTop (P : Program) (w : World) (K : PySem.W.Frag) (mg : Str → Option Value) (base : Heap) (fa : Addr) (fd : FuncData) (ps : List Str) (sp : Sp) : Prop :=
  ∀ (out : List Env) (s : Shared) (H : Hp) (args : Args) (us : List Value) (vs : List V) (Q : VK) (E : XK), Env0 P w K mg base callerA out s H → BindsTo s fd args (ps.zip us) → Vals vs us → sp vs H Q E → codeAny (model P w) callerA (.call (.ref fa) args) (CR CX0 out P w H s Q E) s
theorem top_ok {P : Program} {w : World} {K : PySem.W.Frag} {mg : Str → Option Value} {base : Heap} {x qual : Str} {st : Stmt} {f : Addr} {fd : FuncData} {N ps : List Str} {k : Nat} {sp : Sp} (F : Fun K x qual st f fd) (S : FnScope N ps (defScope st)) (len : ∀ vs H Q E, sp vs H Q E → vs.length = ps.length) (hr : Room (k + 1) callerA)
    (hbody : ∀ (cdv : Value) (out : List Env) (s : Shared) (H : Hp) (vs : List V) (Q : VK) (E : XK), Room k (callerA.deeper (envOfC qual (defScope st) s.heap.objs.size f cdv)) → sp vs H Q E →
      ∃ t, PSs (cxOf CX0 P w K mg base N qual (defScope st) f cdv callerA out s H E).nox (defBody st) t ∧ t { nx := fun _ H' => Q .non H', rt := Q } (start N vs) H) : AtTop P w K mg base f fd ps sp := by
  obtain ⟨oc, od, kV, doc, pm, an, cdv, ct, osl, rfl, lk, hcd⟩ := F.ex
  intro out s H args us vs Q E e0 hb r hsp
  have hl := len _ _ _ _ hsp
  have KI : K.In s.heap := e0.mod.kin.keeps fun b o e => (e0.bs b o e).1
  have nl : s.heap.NoLimit := e0.mod.nolimit.keeps fun b o e => (e0.bs b o e).1
  have hk : ∀ y ∈ ps.zip us, (defScope st).names.lookup y.1 = some .local ∨ ((defScope st).names.lookup y.1 = some .cell ∧ ((cellsFrom (s.heap.objs.size + 1) (defScope st).names []).lookup y.1).isSome = true) := fun ⟨n, v⟩ hy => by
    rcases S.par n (List.of_mem_zip hy).1 with q | q
    · exact .inl q
    · exact .inr ⟨q, PySem.W.cellsFrom_some _ _ _ (.inl q)⟩
  refine codeAny_call_function hr.depth (KI _ _ lk) rfl S.co S.gen rfl (PySem.W.codeRec_of KI hcd) (hb _ _ _ _ ?_)
  refine wpAny_newFunctionEnv_cells S.kind hk fun env he s1 x => ?_
  subst he; refine ⟨nl.keeps x.toInCall.keep, codeAny_func ?_⟩
  obtain ⟨t, ht, hq⟩ := hbody cdv out s H vs Q E (hr.deeper _) hsp
  have I : Inv (cxOf CX0 P w K mg base N qual (defScope st) f cdv callerA out s H E) [] (start N vs) H s1 := inv_start S hr.hd e0 hl r x
  refine wpAny_mono (ht.nox.run [] s1 (start N vs) H _ I hq) (fun fl s' hs => ?_) fun e s' hs => hs
  have fin : ∀ {σ' : L2.St} {H' : Hp} {v : V} {u : Value}, Inv (cxOf CX0 P w K mg base N qual (defScope st) f cdv callerA out s H E) [] σ' H' s' → RelV v u → Q v H' → CE out P w H s Q u s' := fun {σ' H' v u} J rv q => ⟨v, H', J.os, J.bare, J.base, J.hok, rv, q⟩
  cases fl with
  | ret u => obtain ⟨v, σ', H', J, rv, q⟩ := hs; exact fin J rv q
  | next => obtain ⟨σ', H', J, q⟩ := hs; exact fin (v := V.non) (u := Value.none) J rfl q
  | brk => obtain ⟨_, _, _, q⟩ := hs; exact False.elim q
  | cont => obtain ⟨_, _, _, q⟩ := hs; exact False.elim q
theorem top_call {P : Program} {w : World} {K : PySem.W.Frag} {mg mb : Str → Option Value} {fa a : Addr} {fd : FuncData} {x : Str} {sp : Sp} {s₁ : Shared} {us : List Value} {ns : List Int}
    (KX : K.In s₁.heap) (hn : s₁.heap.Ns mainGlobals mg) (hb : s₁.heap.Ns builtinsNs mb) (hbb : ∀ x : Str, x ≠ "__name__" → mb x = bootBuiltins x) (hlim : s₁.heap.NoLimit) (hg : s₁.gens = #[])
    (ha : s₁.heap.get? a = some { cls := .type "list", data := .seq us.toArray }) (hi : IntsAre us ns) (hl : ns.length ≤ sizeLine)
    (F : ∀ base : Heap, K.In base → base.Ns mainGlobals mg → AtTop P w K mg base fa fd [x] sp) (hbind : ∀ (s : Shared) (u : Value), BindsTo s fd ⟨[u], []⟩ [(x, u)])
    (hsp : ∀ H : Hp, Only H → SqL K H a (ns.map V.int) → sp [.ref a] H (fun v _ => v = .bl true) fun _ _ _ => False) :
    codeAny (model P w) callerA (.call (.ref fa) ⟨[.ref a], []⟩) (fun r s' => r = .ok (.ret (.bool true)) ∧ OldK s₁.heap s'.heap ∧ s'.os = s₁.os ∧ AllBare s'.gens) s₁ := by
  have rv := vals_ints hi
  have lenV := hi.length
  have main : ∀ H : Hp, Only H → SqL K H a (ns.map V.int) → HOk P w H s₁.heap → (∀ b, H b ≠ none → b = a) → (H a ≠ none → K.lookup a = none) →
      codeAny (model P w) callerA (.call (.ref fa) ⟨[.ref a], []⟩) (fun r s' => r = .ok (.ret (.bool true)) ∧ OldK s₁.heap s'.heap ∧ s'.os = s₁.os ∧ AllBare s'.gens) s₁ := by
    intro H hO hS hok hA hK
    have free : ∀ b : Addr, b ≠ a → H b = none := fun b n => by
      cases q : H b with
      | none => rfl
      | some u => exact absurd (hA b (by rw [q]; simp)) n
    have noA : ∀ {b : Addr} {o : Obj} {es : Array DictEntry} {ep : Nat}, s₁.heap.get? b = some o → o.data = .dict es ep → H b = none := fun {b o es ep} e d => free b fun z => by
      rw [z, ha] at e; cases e
      exact absurd (show Data.seq us.toArray _ = Data.dict es ep from d) (fun z => nomatch z)
    have nsK : ∀ {b : Addr} {m : Str → Option Value}, s₁.heap.Ns b m → (hidT s₁.heap H).Ns b m := fun {b m} ⟨o, es, ep, e, d, r⟩ => ⟨o, es, ep, hidT_get e (noA e d), d, r⟩
    have hKb : K.In (hidT s₁.heap H) := fun b o e => hidT_get (KX b o e) (by
      cases q : H b with
      | none => rfl
      | some u =>
        have z : b = a := hA b (by rw [q]; simp)
        rw [z] at e q
        rw [hK (by rw [q]; simp)] at e; cases e)
    have hM : Mod K mg (hidT s₁.heap H) := ⟨hKb, nsK hn, ⟨mb, nsK hb, hbb⟩, let ⟨mc, h1, h2⟩ := hlim; ⟨mc, nsK h1, h2⟩⟩
    have e0 : Env0 P w K mg (hidT s₁.heap H) callerA [] s₁ H := ⟨rfl, hM, fun b o e => of_hidT e, Nat.le_of_eq (hidT_size _ _), trivial, fun b hb => (nomatch (show b ∈ ([] : List Addr) from hb)), hok, .of_eq hg⟩
    refine codeAny_mono (F _ hKb (nsK hn) [] s₁ H ⟨[.ref a], []⟩ [.ref a] [.ref a] _ _ e0 (hbind s₁ (.ref a)) (.cons rfl .nil) (hsp H hO hS)) fun r s' h => ?_
    cases r with
    | error e => exact False.elim h
    | ok fl =>
      cases fl with
      | next => exact False.elim h
      | brk => exact False.elim h
      | cont => exact False.elim h
      | ret u =>
        obtain ⟨v, H', os, bare, un, hok', r', q⟩ := h
        obtain rfl : v = .bl true := q
        obtain rfl : u = Value.bool true := r'
        refine ⟨rfl, OldK.of_keep fun b o e => ?_, os, bare⟩
        cases q : H b with
        | none => exact un.keep b o e q (fun z => nomatch (show b ∈ ([] : List Addr) from z)) (by simp)
        | some u =>
          rcases hO b with z | ⟨ob, xs, z⟩
          · rw [q] at z; cases z
          · obtain ⟨e1, _⟩ := hok b _ z
            obtain ⟨e2, _⟩ := hok' b _ (un.frzs b ob _ z)
            rw [e] at e1; cases e1; exact e2
  cases hk : K.lookup a with
  | some o =>
    have e := KX a o hk
    rw [ha] at e; cases e
    exact main (fun _ => none) (fun _ => .inl rfl) (.inr ⟨_, us.toArray, _, hk, rfl, rfl, rfl, by rw [List.size_toArray, lenV]; exact hl, by simpa using rv⟩) (fun b u z => nomatch (show (none : Option HO) = some u from z)) (fun b z => absurd rfl z) fun z => absurd rfl z
  | none =>
    refine main (fun b => if b = a then some (.frz { cls := .type "list", data := .seq us.toArray } (.lst (ns.map V.int))) else none) (fun b => ?_) (.inl (.inr ⟨{ cls := .type "list", data := .seq us.toArray }, if_pos rfl⟩)) (fun b u z => ?_) (fun b z => ?_) fun _ => hk
    · by_cases hb : b = a
      · exact .inr ⟨_, _, if_pos hb⟩
      · exact .inl (if_neg hb)
    · by_cases hb : b = a
      · have z' := (if_pos hb).symm.trans z
        cases z'; subst hb
        exact ⟨ha, by rw [List.length_map]; exact hl, us, _, rv, ha⟩
      · exact nomatch ((if_neg hb).symm.trans z)
    · by_cases hb : b = a
      · exact hb
      · exact absurd (if_neg hb) z
theorem walk_top {l : PySem.W.OpenLaw} {n : Nat} {q : Program} {loose : List Str} {XP : (Str → Option Value) → Heap → Prop} {YP : World → Heap → Prop} {d : DefRec} {K : Params → PySem.W.Frag} {sp : World → Sp} {x : Str}
    (hn : l.most = some n) (hn2 : n ≤ sizeLine) (hdf : d.params.defaults = []) (hY : ∀ (w : World) (h : Heap), YP w h → (K w.params).In h)
    (F : ∀ (w : World) (mg : Str → Option Value) (fa : Addr) (h : Heap), (K w.params).In h → h.Ns mainGlobals mg → mg d.name = some (.ref fa) →
      ∃ fd : FuncData, (∀ (s : Shared) (u : Value), BindsTo s fd ⟨[u], []⟩ [(x, u)]) ∧ ∀ base : Heap, (K w.params).In base → base.Ns mainGlobals mg → AtTop l.prog w (K w.params) mg base fa fd [x] (sp w))
    (hsp : ∀ (w : World) (H : Hp) (a : Addr) (ns : List Int), ns.length ≤ n → Only H → SqL (K w.params) H a (ns.map V.int) → sp w [.ref a] H (fun v _ => v = .bl true) fun _ _ _ => False) :
    PySem.W.WalkO q loose XP YP l.row.toRowW d [] (fun f vs => PySem.call f vs) := by
  refine Att.attach_call hn hdf fun w s₀ s₁ mg mb fa o pm cd doc a us ns G Y ho hd hcd hmg hobj hints hlen hg => ?_
  obtain ⟨fd, hb, hF⟩ := F w mg fa _ (hY w _ Y) G.T.g hmg
  exact top_call (hY w _ Y) G.T.g G.T.b G.T.builtins G.T.nolimit hg hobj hints (Nat.le_trans hlen hn2) hF hb fun H hO hS => hsp w H a ns hlen hO hS
end My

namespace My
open PySem PySem.Spec PyProof.Rows L2
/-! ### long division, as numbers -/
def rs (b d n : Int) : Nat → Int
  | 0 => n
  | i + 1 => rs b d n i * b % d
def dg (b d n : Int) (i : Nat) : Int := rs b d n i * b / d
def dl (b d n : Int) (m : Nat) : List Int := (List.range m).map (dg b d n)
theorem dl_succ (b d n : Int) (m : Nat) : dl b d n (m + 1) = dl b d n m ++ [dg b d n m] := by
  unfold dl; rw [List.range_succ, List.map_append]; rfl
theorem dl_len (b d n : Int) (m : Nat) : (dl b d n m).length = m := by unfold dl; rw [List.length_map, List.length_range]
structure Dv (b d n : Int) (m k : Nat) : Prop where
  lt : k < m
  back : rs b d n m = rs b d n k
  inj : ∀ i j, i < j → j < m → rs b d n i ≠ rs b d n j
theorem Dv.uniq {b d n : Int} {m k m' k' : Nat} (h : Dv b d n m k) (h' : Dv b d n m' k') : m = m' ∧ k = k' := by
  have e : m = m' := by
    rcases Nat.lt_trichotomy m m' with q | q | q
    · exact absurd h.back.symm (h'.inj k m h.lt q)
    · exact q
    · exact absurd h'.back.symm (h.inj k' m' h'.lt q)
  subst e
  refine ⟨rfl, ?_⟩
  have z : rs b d n k = rs b d n k' := h.back.symm.trans h'.back
  rcases Nat.lt_trichotomy k k' with q | q | q
  · exact absurd z (h.inj k k' q h'.lt)
  · exact q
  · exact absurd z.symm (h.inj k' k q h.lt)
def Soon (b d n : Int) : Prop := ∃ u v, u < v ∧ v ≤ 1000 ∧ rs b d n u = rs b d n v
theorem soon_le {b d n : Int} {i : Nat} (h : Soon b d n) (inj : ∀ x y, x < y → y < i → rs b d n x ≠ rs b d n y) : i ≤ 1000 := by
  obtain ⟨u, v, h1, h2, h3⟩ := h
  rcases Nat.lt_or_ge v i with q | q
  · exact absurd h3 (inj u v h1 q)
  · omega
theorem rs_rng {b d n : Int} (d0 : 0 < d) (n0 : 0 ≤ n) (nd : n < d) : ∀ i, 0 ≤ rs b d n i ∧ rs b d n i < d
  | 0 => ⟨n0, nd⟩
  | i + 1 => ⟨Int.emod_nonneg _ (by omega), Int.emod_lt_of_pos _ d0⟩
theorem dg_rng {b d n : Int} (d0 : 0 < d) (n0 : 0 ≤ n) (nd : n < d) (b0 : 0 < b) (i : Nat) : 0 ≤ dg b d n i ∧ dg b d n i < b := by
  obtain ⟨h1, h2⟩ := rs_rng (b := b) d0 n0 nd i
  refine ⟨Int.ediv_nonneg (Int.mul_nonneg h1 (by omega)) (by omega), Int.ediv_lt_of_lt_mul d0 ?_⟩
  rw [Int.mul_comm]
  exact Int.mul_lt_mul_of_pos_left h2 b0
theorem dl_rng {b d n : Int} (d0 : 0 < d) (n0 : 0 ≤ n) (nd : n < d) (b0 : 0 < b) (m : Nat) : ∀ x ∈ dl b d n m, 0 ≤ x ∧ x < b := by
  intro x hx
  unfold dl at hx
  obtain ⟨i, _, rfl⟩ := List.mem_map.mp hx
  exact dg_rng d0 n0 nd b0 i
/-! ### numbers that digits write -/
theorem snoc_ind {α : Type} {P : List α → Prop} (h0 : P []) (h1 : ∀ l x, P l → P (l ++ [x])) (l : List α) : P l := by
  have key : ∀ r : List α, P r.reverse := by
    intro r
    induction r with
    | nil => exact h0
    | cons x r ih => rw [List.reverse_cons]; exact h1 _ _ ih
  have := key l.reverse
  rwa [List.reverse_reverse] at this
def nb (b : Int) (l : List Int) : Int := l.foldl (fun a x => a * b + x) 0
theorem nb_snoc (b : Int) (l : List Int) (x : Int) : nb b (l ++ [x]) = nb b l * b + x := by unfold nb; rw [List.foldl_append]; rfl
theorem nb_app (b : Int) (l : List Int) : ∀ r : List Int, nb b (l ++ r) = nb b l * b ^ r.length + nb b r := by
  refine snoc_ind ?_ fun r x ih => ?_
  · simp [nb]
  · rw [← List.append_assoc, nb_snoc, ih, nb_snoc, List.length_append, List.length_singleton, Int.pow_succ]
    rw [Int.add_mul, Int.mul_assoc, Int.add_assoc]
theorem nb_rng {b : Int} (b0 : 0 < b) : ∀ l : List Int, (∀ x ∈ l, 0 ≤ x ∧ x < b) → 0 ≤ nb b l ∧ nb b l < b ^ l.length := by
  refine snoc_ind ?_ fun r x ih => ?_
  · intro _; exact ⟨by simp [nb], by simp [nb]⟩
  · intro h
    obtain ⟨i0, i1⟩ := ih fun y hy => h y (List.mem_append_left _ hy)
    obtain ⟨x0, x1⟩ := h x (by simp)
    rw [nb_snoc, List.length_append, List.length_singleton, Int.pow_succ]
    refine ⟨Int.add_nonneg (Int.mul_nonneg i0 (by omega)) x0, ?_⟩
    have : (nb b r + 1) * b ≤ b ^ r.length * b := Int.mul_le_mul_of_nonneg_right (by omega) (by omega)
    rw [Int.add_mul] at this
    omega
/-- what the first m digits tell -/
theorem div_inv (b d n : Int) : ∀ m, n * b ^ m = d * nb b (dl b d n m) + rs b d n m
  | 0 => by simp [dl, nb, rs]
  | m + 1 => by
    have ih := div_inv b d n m
    rw [dl_succ, nb_snoc, Int.pow_succ]
    have e : d * (rs b d n m * b / d) + rs b d n m * b % d = rs b d n m * b := Int.mul_ediv_add_emod _ _
    show n * (b ^ m * b) = d * (nb b (dl b d n m) * b + rs b d n m * b / d) + rs b d n m * b % d
    rw [Int.mul_add, Int.add_assoc, e, ← Int.mul_assoc, ih, Int.add_mul, Int.mul_assoc]
theorem pow_pos' {b : Int} (h : 0 < b) : ∀ k : Nat, 0 < b ^ k
  | 0 => by simp
  | k + 1 => by rw [Int.pow_succ]; exact Int.mul_pos (pow_pos' h k) h
/-- top and bottom of what stem and ring tell -/
def tp (b : Int) (S R : List Int) : Int := nb b S * (b ^ R.length - 1) + nb b R
def bt (b : Int) (S R : List Int) : Int := b ^ S.length * (b ^ R.length - 1)
theorem dv_eq {b d n : Int} {m k : Nat} (h : Dv b d n m k) : n * bt b ((dl b d n m).take k) ((dl b d n m).drop k) = d * tp b ((dl b d n m).take k) ((dl b d n m).drop k) := by
  have e : (dl b d n m).take k = dl b d n k := by
    unfold dl
    rw [← List.map_take, List.take_range, Nat.min_eq_left (Nat.le_of_lt h.lt)]
  have l1 : ((dl b d n m).drop k).length = m - k := by rw [List.length_drop, dl_len]
  have sp : nb b (dl b d n m) = nb b (dl b d n k) * b ^ (m - k) + nb b ((dl b d n m).drop k) := by
    have := nb_app b ((dl b d n m).take k) ((dl b d n m).drop k)
    rw [List.take_append_drop, e, l1] at this
    exact this
  have h1 := div_inv b d n m
  have h2 := div_inv b d n k
  rw [h.back, sp] at h1
  have pw : b ^ m = b ^ k * b ^ (m - k) := by
    rw [← Int.pow_add]; congr 1; have := h.lt; omega
  unfold bt tp
  rw [e, l1, dl_len]
  rw [pw] at h1
  have h3 : n * (b ^ k * (b ^ (m - k) - 1)) = n * (b ^ k * b ^ (m - k)) - n * b ^ k := by
    rw [Int.mul_sub, Int.mul_sub, Int.mul_one]
  rw [h3, h1, h2]
  rw [Int.mul_add, Int.mul_add, Int.mul_sub, Int.mul_sub, Int.mul_one]
  omega
end My

namespace My
open PySem PySem.Spec PyProof.Rows L2
/-! ### t * k, any k that is not below nought -/
theorem mul_same (l : Addr) (items : Array Value) (n : Nat) (dd : Option Addr) (sl : Array (Option Value)) (u : Tok) :
    Meets (Builtin.«tuple.__mul__» ⟨[.ref l, .int 1 u], []⟩) (fun _ R s => s.heap.get? l = some { cls := .type "tuple", dict := dd, data := .seq items n, slots := sl } ∧ R (.ok (.ret (Value.ref l))) s) :=
  .of_wp fun prog w A R s h => by
    obtain ⟨hp, g, d, tk, os⟩ := s
    obtain ⟨hl, h⟩ := h
    have f1 := AutoSeq1.idx_int
    have c1 : (items.isEmpty || (1 : Int) == 1) = true := by rw [Bool.or_comm]; rfl
    wp_walk using wpAny_loadPart' hl
    repeat (first
      | (refine wpAny_ite_true (decide_eq_true c1) ?_; wp_walk using wpAny_loadPart' hl)
      | (refine wpAny_ite_false (decide_eq_false (by decide)) ?_; wp_walk using wpAny_loadPart' hl))
    exact ⟨_, rfl, h⟩
theorem mul_none (l : Addr) (items : Array Value) (n : Nat) (dd : Option Addr) (sl : Array (Option Value)) (u : Tok) (c1 : (items.isEmpty || (0 : Int) == 1) = false) :
    Meets (Builtin.«tuple.__mul__» ⟨[.ref l, .int 0 u], []⟩) (fun _ R s => s.heap.get? l = some { cls := .type "tuple", dict := dd, data := .seq items n, slots := sl } ∧ R (.ok (.ret (Value.ref s.heap.objs.size))) { s with heap := s.heap.push { cls := Value.type "tuple", data := Data.seq #[] }, toks := s.toks }) :=
  .of_wp fun prog w A R s h => by
    obtain ⟨hp, g, d, tk, os⟩ := s
    obtain ⟨hl, h⟩ := h
    have f1 := AutoSeq1.idx_int
    have c2 : (decide ((0 : Int) ≤ 0) || items.isEmpty) = true := rfl
    wp_walk using wpAny_loadPart' hl
    repeat (first
      | (refine wpAny_ite_false (decide_eq_false (by rw [c1]; exact Bool.false_ne_true)) ?_; wp_walk using wpAny_loadPart' hl)
      | (refine wpAny_ite_true (decide_eq_true c2) ?_; wp_walk using wpAny_loadPart' hl)
      | (refine wpAny_ite_false (decide_eq_false (by decide)) ?_; wp_walk using wpAny_loadPart' hl))
    exact ⟨_, rfl, h⟩
def rMulT (K : PySem.W.Frag) : R2 := fun x y H Q => ∃ l k xs, x = .ref l ∧ y = .int k ∧ SqT K H l xs ∧ xs ≠ [] ∧ 0 ≤ k ∧ k ≤ 1000 ∧ xs.length ≤ 1000 ∧ (k = 1 → Q (.ref l) H) ∧ (k ≠ 1 → ∀ p, H p = none → Q (.ref p) (upd H p (.tup (List.replicate k.toNat xs).flatten)))
theorem op_mulT {X : Cx} : OpR X (binaryOp .Mult) (rMulT X.K) := by
  intro pins s σ H x y v u Q I rx ry h
  obtain ⟨l, k, xs, rfl, rfl, hT, hne, h0, h1, hz, q1, q2⟩ := h
  by_cases k2 : 2 ≤ k
  · exact op_repT pins s σ H _ _ v u Q I rx ry ⟨l, k, xs, rfl, rfl, hT, hne, k2, h1, hz, q2 (by omega)⟩
  cases rx
  obtain ⟨t, rfl⟩ := ry
  obtain ⟨its, r, ⟨⟨cls, dd, data, sl⟩, ho, hc, n, hd⟩, hs⟩ := I.tuple hT
  simp only at hc hd
  subst hc hd
  have hle : its.length = xs.length := r.length.symm
  have hi : its.toArray.isEmpty = false := by
    cases its with
    | nil => exact absurd (List.eq_nil_of_length_eq_zero hle.symm) hne
    | cons a b => rfl
  by_cases k1 : k = 1
  · subst k1
    exact wpAny_binaryOp_repeat_ref (T := "tuple") (U := "int") (by decide) ⟨_, ho, rfl⟩ (fun s' => typeIs_int s' 1 t) noFill_tuple_mul F.fills_int_mul F.slot_int_rmul repeat_tuple F.slot_int_index.lookup
      (call_meets F.slot_int_rmul (typeIs_int s 1 t) F.entry_int_rmul (F.args_int_rmul_2 _ _) (int_rmul_tuple 1 t l its.toArray n dd sl) ⟨ho, rfl, ⟨_, ho, rfl⟩, call_meets F.slot_tuple_mul ⟨_, ho, rfl⟩ F.entry_tuple_mul (F.args_tuple_mul_2 _ _) (mul_same l its.toArray n dd sl t) ⟨ho, .ref l, H, I, rfl, q1 rfl⟩⟩)
  · have k0 : k = 0 := by omega
    subst k0
    refine wpAny_binaryOp_repeat_ref (T := "tuple") (U := "int") (by decide) ⟨_, ho, rfl⟩ (fun s' => typeIs_int s' 0 t) noFill_tuple_mul F.fills_int_mul F.slot_int_rmul repeat_tuple F.slot_int_index.lookup
      (call_meets F.slot_int_rmul (typeIs_int s 0 t) F.entry_int_rmul (F.args_int_rmul_2 _ _) (int_rmul_tuple 0 t l its.toArray n dd sl) ⟨ho, rfl, ⟨_, ho, rfl⟩, call_meets F.slot_tuple_mul ⟨_, ho, rfl⟩ F.entry_tuple_mul (F.args_tuple_mul_2 _ _) (mul_none l its.toArray n dd sl t (by rw [hi]; rfl)) ⟨ho, ?_⟩⟩)
    refine ⟨.ref s.heap.objs.size, _, I.laid (t' := s.toks) (o := .tup []) (fun b ob q => Heap.get?_push_of_some _ q) (Nat.le_refl _) ?_, rfl, q2 (by decide) _ (I.hok.fresh (Nat.le_refl _))⟩
    exact ⟨by simp, [], .nil, IsTup.new _ _⟩
/-! ### rules by what stands still -/
theorem OpR.imp {X : Cx} {f : Value → Value → Sem Value} {r r' : R2} (h : OpR X f r) (i : ∀ x y H Q, r' x y H Q → r x y H Q) : OpR X f r' := fun pins s σ H x y v u Q I rx ry q => h pins s σ H x y v u Q I rx ry (i _ _ _ _ q)
theorem SlR.imp {X : Cx} {r r' : V → Option Int → Option Int → Hp → VK → Prop} (h : SlR X r) (i : ∀ x lo hi H Q, r' x lo hi H Q → r x lo hi H Q) : SlR X r' := fun pins s σ H x v vl vu lo hi sl Q I rx hs pl pu q => h pins s σ H x v vl vu lo hi sl Q I rx hs pl pu (i _ _ _ _ _ q)
def rMulG : R2 := fun x y H Q => ∃ (G : Hp) (l : Addr) (k : Int) (xs : List V), x = .ref l ∧ y = .int k ∧ Same G H ∧ G l = some (.tup xs) ∧ xs ≠ [] ∧ 0 ≤ k ∧ k ≤ 1000 ∧ xs.length ≤ 1000 ∧ ∀ (a : Addr) (G' H' : Hp), Nw G H G' H' → G' a = some (.tup (List.replicate k.toNat xs).flatten) → Q (.ref a) H'
theorem op_mulG {X : Cx} : OpR X (binaryOp .Mult) rMulG := OpR.imp op_mulT fun x y H Q ⟨G, l, k, xs, e1, e2, e, hl, hn, k0, k1, hz, q⟩ =>
  ⟨l, k, xs, e1, e2, SqT.of (e _ _ hl), hn, k0, k1, hz, fun z => q l G H (Nw.refl e) (by rw [z]; simpa using hl), fun _ p np => q p _ _ (Nw.mk1 e np _) upd_same⟩
def rCatG : R2 := fun x y H Q => ∃ (G : Hp) (a b : Addr) (xs ys : List V), x = .ref a ∧ y = .ref b ∧ Same G H ∧ G a = some (.tup xs) ∧ G b = some (.tup ys) ∧ xs.length + ys.length ≤ sizeLine ∧ ∀ (c : Addr) (G' H' : Hp), Nw G H G' H' → G' c = some (.tup (xs ++ ys)) → Q (.ref c) H'
theorem op_catG {X : Cx} : OpR X (binaryOp .Add) rCatG := OpR.imp op_catA fun x y H Q ⟨G, a, b, xs, ys, e1, e2, e, ha, hb, hz, q⟩ =>
  ⟨a, b, xs, ys, e1, e2, SqT.of (e _ _ ha), SqT.of (e _ _ hb), hz, fun z => q b G H (Nw.refl e) (by rw [z]; simpa using hb), fun _ z => q a G H (Nw.refl e) (by rw [z]; simpa using ha), fun _ _ p np => q p _ _ (Nw.mk1 e np _) upd_same⟩
def rSlG : V → Option Int → Option Int → Hp → VK → Prop := fun x lo hi H Q => ∃ (G : Hp) (a : Addr) (xs : List V), x = .ref a ∧ Same G H ∧ G a = some (.tup xs) ∧ ∀ (c : Addr) (G' H' : Hp), Nw G H G' H' → G' c = some (.tup (cutV xs lo hi)) → Q (.ref c) H'
theorem sl_tupG {X : Cx} : SlR X rSlG := SlR.imp sl_tupA fun x lo hi H Q ⟨G, a, xs, e1, e, ha, q⟩ =>
  ⟨a, xs, e1, SqT.of (e _ _ ha), fun z => q a G H (Nw.refl e) (by
    have : cutV xs lo hi = xs := by
      unfold cutV
      rw [z.1, z.2, List.drop_zero, Nat.sub_zero, List.take_length]
    rw [this]; exact ha), fun _ p np => q p _ _ (Nw.mk1 e np _) upd_same⟩
end My

namespace My
open PySem PySem.Spec PyProof.Rows L2
/-! ### how many digits come ahead of the ring -/
theorem rs_mod {b d n : Int} (n0 : 0 ≤ n) (nd : n < d) : ∀ i, rs b d n i = n * b ^ i % d
  | 0 => by rw [Int.pow_zero, Int.mul_one]; exact (Int.emod_eq_of_lt n0 nd).symm
  | i + 1 => by
    show rs b d n i * b % d = _
    rw [rs_mod n0 nd i, Int.pow_succ, ← Int.mul_assoc, Int.mul_emod (n * b ^ i % d) b d, Int.emod_emod, ← Int.mul_emod]
theorem rs_add {b d n : Int} {u v : Nat} (h : rs b d n u = rs b d n v) : ∀ k, rs b d n (u + k) = rs b d n (v + k)
  | 0 => h
  | k + 1 => by show rs b d n (u + k) * b % d = rs b d n (v + k) * b % d; rw [rs_add h k]
theorem rs_iff {B D N : Nat} (b0 : 0 < B) (nd : N < D) (g : Nat.gcd N D = 1) (i p : Nat) : rs (B : Int) D N i = rs (B : Int) D N (i + p) ↔ D ∣ B ^ i * (B ^ p - 1) := by
  rw [rs_mod (Int.natCast_nonneg _) (by omega), rs_mod (Int.natCast_nonneg _) (by omega), eq_comm, Int.emod_eq_emod_iff_emod_sub_eq_zero, ← Int.dvd_iff_emod_eq_zero]
  have h1 : 1 ≤ B ^ p := Nat.pow_pos b0
  have e : (N : Int) * (B : Int) ^ (i + p) - (N : Int) * (B : Int) ^ i = ((N * (B ^ i * (B ^ p - 1)) : Nat) : Int) := by
    rw [Int.natCast_mul, Int.natCast_mul, Int.natCast_sub h1, Int.natCast_pow, Int.natCast_pow, Int.pow_add, Int.mul_sub, Int.mul_sub, Int.natCast_one, Int.mul_one]
  rw [e, Int.natCast_dvd_natCast]
  constructor
  · exact fun h => Nat.Coprime.dvd_of_dvd_mul_left (show Nat.gcd D N = 1 by rw [Nat.gcd_comm]; exact g) h
  · exact fun h => Nat.dvd_trans h (Nat.dvd_mul_left _ _)
/-- what is left of D behind i steps -/
def StemAt (B D i L : Nat) : Prop := ∃ G w, D = G * L ∧ B ^ i = G * w ∧ Nat.gcd L w = 1 ∧ 0 < L
theorem StemAt.start {B D : Nat} (d0 : 0 < D) : StemAt B D 0 D := ⟨1, 1, by simp, by simp, by simp, d0⟩
theorem StemAt.step {B D i L : Nat} (h : StemAt B D i L) : StemAt B D (i + 1) (L / Nat.gcd L B) := by
  obtain ⟨G, w, e1, e2, e3, l0⟩ := h
  obtain ⟨c, hc⟩ : ∃ c, c = Nat.gcd L B := ⟨_, rfl⟩
  rw [← hc]
  have c0 : 0 < c := by rw [hc]; exact Nat.gcd_pos_of_pos_left _ l0
  obtain ⟨x, hx⟩ : c ∣ L := by rw [hc]; exact Nat.gcd_dvd_left _ _
  obtain ⟨y, hy⟩ : c ∣ B := by rw [hc]; exact Nat.gcd_dvd_right _ _
  have ex : L / c = x := by rw [hx]; exact Nat.mul_div_cancel_left _ c0
  have x0 : 0 < x := Nat.pos_of_ne_zero fun z => by rw [z] at hx; omega
  have gxy : Nat.gcd x y = 1 := by
    have : c * Nat.gcd x y = c := by rw [← Nat.gcd_mul_left, ← hx, ← hy]; exact hc.symm
    exact Nat.eq_of_mul_eq_mul_left c0 (by rw [this, Nat.mul_one])
  have gxw : Nat.gcd x w = 1 := Nat.Coprime.coprime_dvd_left ⟨c, by rw [Nat.mul_comm]; exact hx⟩ e3
  refine ⟨G * c, w * y, ?_, ?_, ?_, by rw [ex]; exact x0⟩
  · rw [ex, e1, hx, Nat.mul_assoc]
  · rw [Nat.pow_succ, e2, hy]; simp only [Nat.mul_left_comm, Nat.mul_comm]
  · rw [ex]; exact Nat.Coprime.mul_right gxw gxy
theorem StemAt.none {B D i L p : Nat} (h : StemAt B D i L) (g : 1 < Nat.gcd L B) (p0 : 0 < p) (b0 : 0 < B) : ¬ D ∣ B ^ i * (B ^ p - 1) := by
  obtain ⟨G, w, e1, e2, e3, l0⟩ := h
  intro hd
  have g0 : 0 < G := Nat.pos_of_ne_zero fun z => by rw [z, Nat.zero_mul] at e2; exact absurd e2 (Nat.pos_iff_ne_zero.mp (Nat.pow_pos b0))
  rw [e1, e2, Nat.mul_assoc] at hd
  have h1 : L ∣ w * (B ^ p - 1) := Nat.dvd_of_mul_dvd_mul_left g0 hd
  have h2 : L ∣ B ^ p - 1 := Nat.Coprime.dvd_of_dvd_mul_left e3 h1
  have h3 : Nat.gcd L B ∣ B ^ p - 1 := Nat.dvd_trans (Nat.gcd_dvd_left _ _) h2
  have h4 : Nat.gcd L B ∣ B ^ p := Nat.dvd_trans (Nat.gcd_dvd_right L B) (by have := Nat.pow_dvd_pow B (show 1 ≤ p from p0); rwa [Nat.pow_one] at this)
  have h5 : 1 ≤ B ^ p := Nat.pow_pos b0
  have h6 : Nat.gcd L B ∣ 1 := by
    have : B ^ p - (B ^ p - 1) = 1 := by omega
    rw [← this]
    exact Nat.dvd_sub h4 h3
  have := Nat.le_of_dvd (by decide) h6
  omega
theorem StemAt.ends {B D s L u p : Nat} (h : StemAt B D s L) (g : Nat.gcd L B = 1) (hd : D ∣ B ^ u * (B ^ p - 1)) : D ∣ B ^ s * (B ^ p - 1) := by
  obtain ⟨G, w, e1, e2, e3, l0⟩ := h
  have h1 : L ∣ B ^ u * (B ^ p - 1) := Nat.dvd_trans ⟨G, by rw [Nat.mul_comm]; exact e1⟩ hd
  have h2 : L ∣ B ^ p - 1 := Nat.Coprime.dvd_of_dvd_mul_left (Nat.Coprime.pow_right u g) h1
  rw [e1, e2, Nat.mul_assoc]
  exact Nat.mul_dvd_mul_left G (Nat.dvd_trans h2 (Nat.dvd_mul_left _ _))
/-- the count of the digits ahead, as the program counts it -/
def StemEnd (B D s : Nat) : Prop := (∀ i, i < s → ∃ L, StemAt B D i L ∧ 1 < Nat.gcd L B) ∧ ∃ L, StemAt B D s L ∧ Nat.gcd L B = 1
structure Stem (b d n : Int) (s : Nat) : Prop where
  ahead : ∀ i j, i < s → i < j → rs b d n i ≠ rs b d n j
  round : ∀ u v, u < v → rs b d n u = rs b d n v → rs b d n s = rs b d n (s + (v - u))
theorem stem_of {B D N s : Nat} (b0 : 0 < B) (nd : N < D) (g : Nat.gcd N D = 1) (h : StemEnd B D s) : Stem (B : Int) D N s := by
  obtain ⟨h1, L, h2, h3⟩ := h
  constructor
  · intro i j hi hij e
    obtain ⟨L', a, c⟩ := h1 i hi
    obtain ⟨p, rfl⟩ : ∃ p, j = i + p := ⟨j - i, by omega⟩
    exact a.none c (by omega) b0 ((rs_iff b0 nd g i p).mp e)
  · intro u v huv e
    obtain ⟨p, rfl⟩ : ∃ p, v = u + p := ⟨v - u, by omega⟩
    rw [show u + p - u = p by omega]
    exact (rs_iff b0 nd g s p).mpr (h2.ends h3 ((rs_iff b0 nd g u p).mp e))
theorem Stem.soon {b d n : Int} {s : Nat} (h : Stem b d n s) (q : Soon b d n) : ∃ p, 0 < p ∧ s + p ≤ 1000 ∧ rs b d n (s + p) = rs b d n s := by
  obtain ⟨u, v, h1, h2, h3⟩ := q
  have hu : s ≤ u := by
    rcases Nat.lt_or_ge u s with z | z
    · exact absurd h3 (h.ahead u v z h1)
    · exact z
  exact ⟨v - u, by omega, by omega, (h.round u v h1 h3).symm⟩
theorem Stem.dv {b d n : Int} {s j : Nat} (h : Stem b d n s) (j0 : 0 < j) (hb : rs b d n (s + j) = rs b d n s) (no : ∀ i, 0 < i → i < j → rs b d n (s + i) ≠ rs b d n s) : Dv b d n (s + j) s := by
  refine ⟨by omega, hb, fun x y hxy hy => ?_⟩
  rcases Nat.lt_or_ge x s with z | z
  · exact h.ahead x y z hxy
  · intro e
    obtain ⟨x', rfl⟩ : ∃ k, x = s + k := ⟨x - s, by omega⟩
    obtain ⟨y', rfl⟩ : ∃ k, y = s + k := ⟨y - s, by omega⟩
    have e2 := rs_add e (j - y')
    rw [show s + y' + (j - y') = s + j by omega, hb] at e2
    exact no (x' + (j - y')) (by omega) (by omega) (by rw [← Nat.add_assoc]; exact e2)
end My

namespace My
open PySem PySem.Spec PyProof.Rows L2
abbrev sRed : Stmt := topS 22
/-! ### lowest terms -/
def gN (a b : Int) : Int := ((Nat.gcd b.natAbs a.natAbs : Nat) : Int)
def spRed : Sp := fun vs H Q _ => ∃ a b : Int, vs = [.int a, .int b] ∧ 0 ≤ a ∧ 0 < b ∧ b.natAbs < 2 ^ 8000 ∧ ∀ q, H q = none → Q (.ref q) (upd H q (.tup [.int (a / gN a b), .int (b / gN a b)]))
theorem gcd_turn (x y : Nat) : Nat.gcd y (x % y) = Nat.gcd x y := by
  rw [Nat.gcd_comm x y, Nat.gcd_rec y x, Nat.gcd_comm]
section
variable {P : Program} {w : World} {K : PySem.W.Frag} {mg : Str → Option Value} {base : Heap}
theorem scRed : FnScope ["top", "whole", "one", "other"] ["top", "whole"] (defScope sRed) := ⟨rfl, rfl, rfl, by decide +kernel, rfl, by decide +kernel, by decide +kernel⟩
theorem ok_red {f : Addr} {fd : FuncData} (F : Fun K "_law_reduced" "_law_reduced" sRed f fd) : FnOk P w K mg base CX0 1 f fd ["top", "whole"] spRed := by
  refine F.ok scRed (fun vs H Q E h => ?_) (fun cdv A outer s H vs Q E hr h => ?_)
  · obtain ⟨a, b, rfl, _⟩ := h
    rfl
  · obtain ⟨a, b, rfl, a0, b0, bb, k⟩ := h
    refine ⟨_, pss_cons (ps_par (i := 2) (j := 3) (by rfl) scRed.nd rfl rfl (by decide) rfl rfl (pa_cons (pv 1) (pa_cons (pv 0) pa_nil)) (by rfl))
      (pss_cons (ps_while PassesOwn.never (pt_cmpR op_ne (pv 3) pe_int (nomark _))
        (pss_one (ps_par (i := 2) (j := 3) (by rfl) scRed.nd rfl rfl (by decide) rfl rfl (pa_cons (pv 3) (pa_cons (pe_op op_mod (pv 2) (pv 3)) pa_nil)) (by rfl))))
      (pss_one (ps_ret (pe_tup (pa_cons (pe_op op_fdivW (pv 0) (pv 2)) (pa_cons (pe_op op_fdivW (pv 1) (pv 2)) pa_nil)))))), ?_⟩
    refine ⟨_, rfl, _, rfl, _, _, rfl, ?_⟩
    refine while_by (fun σ H2 => ∃ x y : Nat, σ = [some (.int a), some (.int b), some (.int (x : Int)), some (.int (y : Int))] ∧ H2 = H ∧ Nat.gcd x y = Nat.gcd b.natAbs a.natAbs) (fun σ _ => match σ with | [_, _, _, some (.int y)] => y.natAbs | _ => 0) ?_ ?_ ?_
    · refine ⟨b.natAbs, a.natAbs, ?_, rfl, rfl⟩
      have e1 : ((b.natAbs : Nat) : Int) = b := by omega
      have e2 : ((a.natAbs : Nat) : Int) = a := by omega
      rw [e1, e2]; rfl
    · rintro σ H2 ⟨x, y, rfl, rfl, hg⟩
      refine ⟨_, rfl, rfl, _, rfl, ?_⟩
      by_cases hy : y = 0
      · have e1 : (!decide (V.int (y : Int) = V.int 0)) = false := by rw [hy]; rfl
        refine ifF e1 ?_
        subst hy
        have hx : x = Nat.gcd b.natAbs a.natAbs := by rw [← hg, Nat.gcd_zero_right]
        have g0 : 0 < x := by rw [hx]; exact Nat.gcd_pos_of_pos_left _ (by omega)
        have gb : x ≤ b.natAbs := by rw [hx]; exact Nat.le_of_dvd (by omega) (Nat.gcd_dvd_left _ _)
        have wd : ∀ z : Int, CDivW z (x : Int) := fun z => wide_div (b := 8000) (by omega) (Nat.lt_of_le_of_lt gb bb) (by decide) (by decide)
        refine ⟨_, rfl, _, rfl, _, _, rfl, rfl, wd _, _, rfl, _, rfl, _, _, rfl, rfl, wd _, (by show 2 ≤ sizeLine; decide), fun q hq => ?_⟩
        have e : gN a b = (x : Int) := by unfold gN; rw [hx]
        have kq := k q hq
        rw [e] at kq
        exact kq
      · have e1 : (!decide (V.int (y : Int) = V.int 0)) = true := by
          rw [decide_eq_false]
          · rfl
          · intro z
            have := V.int.inj z
            omega
        refine ifT e1 ?_
        have y0 : (0 : Int) < (y : Int) := by omega
        refine ⟨_, rfl, _, rfl, _, rfl, _, _, rfl, rfl, y0, _, _, rfl, ⟨y, x % y, ?_, rfl, by rw [gcd_turn, hg]⟩, ?_⟩
        · rw [Int.natCast_emod]; rfl
        · show ((x : Int) % (y : Int)).natAbs < ((y : Int)).natAbs
          have := Nat.mod_lt x (Nat.pos_of_ne_zero hy)
          omega
    · intro σ H2 Q1 Q2 m h
      obtain ⟨v, e, h1, b1, e2, h2⟩ := h
      exact ⟨v, e, h1, b1, e2, m _ _ h2⟩
end
def iTup (l : List Int) : PyData := .tuple (l.map .int)
structure Tx (mg : Str → Option Value) : Prop where
  len : mg "len" = none
  divmod : mg "divmod" = none
  tuple : mg "tuple" = none
theorem dq_mk {K : PySem.W.Frag} {G : Hp} {a : Addr} {l : List Int} (h : G a = some (.tup (l.map V.int))) : Dq K G (.ref a) (iTup l) := .tup h (dq_ints K G l)
theorem cut_take (l : List Int) (k : Nat) : cutV (l.map V.int) none (some (k : Int)) = (l.take k).map V.int := by
  unfold cutV
  have a1 : HT.sIx (l.map V.int).length 0 none = 0 := rfl
  rw [sIx_nat, a1, List.drop_zero, Nat.sub_zero, List.map_take, ← List.take_take, List.take_length]
theorem cut_drop (l : List Int) (k : Nat) : cutV (l.map V.int) (some (k : Int)) none = (l.drop k).map V.int := by
  unfold cutV
  have a1 : HT.sIx (l.map V.int).length (l.map V.int).length none = (l.map V.int).length := rfl
  rw [sIx_nat, a1, List.map_drop]
  rcases Nat.le_total k (l.map V.int).length with h | h
  · rw [Nat.min_eq_left h, List.take_of_length_le (by rw [List.length_drop]; exact Nat.le_refl _)]
  · rw [Nat.min_eq_right h, Nat.sub_self, List.take_zero, List.drop_eq_nil_of_le h]
/-- what a division is asked of -/
structure Asked (b d n : Int) : Prop where
  b0 : 2 ≤ b
  b1 : b ≤ 10
  n0 : 0 ≤ n
  nd : n < d
  dz : d.natAbs < 2 ^ 8000
  soon : Soon b d n
  gc : Nat.gcd n.natAbs d.natAbs = 1
def spDivided (K : PySem.W.Frag) : Sp := fun vs H Q _ => ∃ (b n d : Int) (G : Hp), vs = [.int b, .int n, .int d] ∧ Asked b d n ∧ Same G H ∧
  ∀ m k, Dv b d n m k → ∀ (v : V) (G' H' : Hp), Nw G H G' H' → Dq K G' v (.tuple [iTup ((dl b d n m).take k), iTup ((dl b d n m).drop k)]) → Q v H'
def spLDivided (K : PySem.W.Frag) : Sp := fun vs H Q _ => ∃ (b n d : Int) (G : Hp), vs = [.int b, .int n, .int d] ∧ 0 < d ∧ (n ≠ d → Asked b d n) ∧ Same G H ∧
  (n = d → ∀ (v : V) (G' H' : Hp), Nw G H G' H' → Dq K G' v (.tuple [iTup [], iTup [b - 1]]) → Q v H') ∧
  (n ≠ d → ∀ m k, Dv b d n m k → ∀ (v : V) (G' H' : Hp), Nw G H G' H' → Dq K G' v (.tuple [iTup ((dl b d n m).take k), iTup ((dl b d n m).drop k)]) → Q v H')
/-- digits of a base -/
def Digs (b : Int) (l : List Int) : Prop := ∀ x ∈ l, 0 ≤ x ∧ x < b
def spNumberOf (K : PySem.W.Frag) : Sp := fun vs H Q _ => ∃ (b : Int) (v : V) (l : List Int) (G : Hp), vs = [.int b, v] ∧ 2 ≤ b ∧ b ≤ 10 ∧ Same G H ∧ Dq K G v (iTup l) ∧ ∀ (a : Addr) (G' H' : Hp), Nw G H G' H' → G' a = some (.tup [.int (nb b l), .int (b ^ l.length)]) → Q (.ref a) H'
def spLNumber (K : PySem.W.Frag) : Sp := fun vs H Q _ => ∃ (b : Int) (v : V) (l : List Int) (G : Hp), vs = [.int b, v] ∧ 2 ≤ b ∧ b ≤ 10 ∧ Same G H ∧ Dq K G v (iTup l) ∧ Q (.int (nb b l)) H
def spInLowest : Sp := fun vs H Q _ => ∃ a b : Int, vs = [.int a, .int b] ∧ 0 < b ∧ b.natAbs < 2 ^ 8000 ∧ ∀ q, H q = none → Q (.ref q) (upd H q (.tup [.int (a / gN a b), .int (b / gN a b)]))
theorem small1000000 {n : Nat} (h : n ≤ 1000000) : n < sizeLine := by rw [sizeLine_eq]; omega
theorem same_put {H H2 : Hp} (s : Same H H2) {p : Addr} (n : H p = none) {o : HO} : Same H (upd H2 p o) := fun b u h => by rw [upd_ne (ne_of_none h n)]; exact s b u h
theorem dq_tup {K : PySem.W.Frag} {G : Hp} {v : V} {l : List Int} (h : Dq K G v (iTup l)) : ∃ a, v = .ref a ∧ G a = some (.tup (l.map V.int)) := by
  cases h with
  | tup hs ha =>
    rename_i a xs
    refine ⟨a, rfl, ?_⟩
    have key : ∀ (xs : List V) (l : List Int), DqAll K G xs (l.map .int) → xs = l.map V.int := by
      intro xs l
      induction l generalizing xs with
      | nil => intro h; cases h; rfl
      | cons x r ih => intro h; cases h with | cons h1 h2 => cases h1; rw [ih _ h2]; rfl
    rw [← key xs l ha]; exact hs
theorem Nw.pre {G H H1 G' H' : Hp} (e : Same H H1) (g : Nw G H1 G' H') : Nw G H G' H' := ⟨g.gg, g.gh, e.trans g.hh, fun c hc => g.old c (keep_ne e hc)⟩
def spStem : Sp := fun vs H Q _ => ∃ b d : Int, vs = [.int b, .int d] ∧ 2 ≤ b ∧ b ≤ 10 ∧ 0 < d ∧ d.natAbs < 2 ^ 8000 ∧ ∀ s : Nat, StemEnd b.toNat d.toNat s → Q (.int (s : Int)) H
theorem asked_stem {b d n : Int} {s : Nat} (a : Asked b d n) (h : StemEnd b.toNat d.toNat s) : Stem b d n s := by
  obtain ⟨b0, b1, n0, nd, dz, so, gc⟩ := a
  obtain ⟨B, rfl⟩ : ∃ B : Nat, b = (B : Int) := ⟨b.toNat, by omega⟩
  obtain ⟨D, rfl⟩ : ∃ D : Nat, d = (D : Int) := ⟨d.toNat, by omega⟩
  obtain ⟨N, rfl⟩ : ∃ N : Nat, n = (N : Int) := ⟨n.toNat, by omega⟩
  rw [Int.toNat_natCast, Int.toNat_natCast] at h
  exact stem_of (by omega) (by omega) gc h
theorem dl_take {b d n : Int} (s j : Nat) : (dl b d n (s + j)).take s = dl b d n s := by
  induction j with
  | zero => rw [Nat.add_zero]; exact List.take_of_length_le (by rw [dl_len]; exact Nat.le_refl _)
  | succ j ih => rw [← Nat.add_assoc, dl_succ, List.take_append_of_le_length (by rw [dl_len]; omega)]; exact ih
theorem dl_drop_succ {b d n : Int} (s j : Nat) : (dl b d n (s + (j + 1))).drop s = (dl b d n (s + j)).drop s ++ [dg b d n (s + j)] := by
  rw [← Nat.add_assoc, dl_succ, List.drop_append_of_le_length (by rw [dl_len]; omega)]
section
variable {P : Program} {w : World} {K : PySem.W.Frag} {mg : Str → Option Value} {base : Heap}
end
end My

namespace My
open PySem PySem.Spec PyProof.Rows L2
theorem dp_ints {K : PySem.W.Frag} {H : Hp} {a : Addr} {l : List Int} (h : H a = some (.tup (l.map V.int))) : Dp K H (.ref a) (iTup l) := by
  refine .tup (SqT.of h) ?_
  clear h
  induction l with
  | nil => exact .nil
  | cons x r ih => exact .cons (.int x) ih
theorem eqv_ints : ∀ l m : List Int, PyData.eqvAll (l.map PyData.int) (m.map PyData.int) = decide (l = m)
  | [], [] => rfl
  | [], _ :: _ => by simp [PyData.eqvAll]
  | _ :: _, [] => by simp [PyData.eqvAll]
  | x :: l, y :: m => by
    show (PyData.eqv (.int x) (.int y) && PyData.eqvAll (l.map PyData.int) (m.map PyData.int)) = _
    rw [eqv_ints l m]
    simp only [PyData.eqv]
    by_cases h1 : x = y <;> by_cases h2 : l = m <;> simp [h1, h2]
theorem eqv_iTup (l m : List Int) : PyData.eqv (iTup l) (iTup m) = decide (l = m) := by
  unfold iTup
  simp only [PyData.eqv]
  exact eqv_ints l m
theorem shaped_iTup (l : List Int) : SeqAt.shaped (iTup l) = true := by
  have h1 : PyData.canLayAll0 (l.map PyData.int) = true := by
    induction l with
    | nil => simp [PyData.canLayAll0]
    | cons x r ih => simp only [List.map_cons, PyData.canLayAll0, PyData.canLay0, ih, Bool.and_true]
  have h2 : PyData.depthAll (l.map PyData.int) = 0 := by
    clear h1
    induction l with
    | nil => simp only [List.map_nil, PyData.depthAll]
    | cons x r ih => simp only [List.map_cons, PyData.depthAll, PyData.depth, ih]; rfl
  unfold SeqAt.shaped iTup
  simp only [PyData.canLay0, PyData.depth, h1, h2]
  rfl
theorem low_nat {N D T B : Nat} (h : N * B = D * T) (hd : 0 < D) (hb : 0 < B) (g : Nat.gcd N D = 1) : T / Nat.gcd B T = N ∧ B / Nat.gcd B T = D := by
  have d1 : D ∣ N * B := ⟨T, h⟩
  have d2 : D ∣ B := (Nat.Coprime.dvd_of_dvd_mul_left (show Nat.Coprime D N by rw [Nat.coprime_comm]; exact g) d1)
  obtain ⟨c, rfl⟩ := d2
  have ht : T = N * c := by
    have : D * (N * c) = D * T := by rw [← h]; rw [Nat.mul_left_comm]
    exact (Nat.eq_of_mul_eq_mul_left hd this).symm
  subst ht
  have c0 : 0 < c := Nat.pos_of_ne_zero fun z => by rw [z] at hb; simp at hb
  have hg : Nat.gcd (D * c) (N * c) = c := by rw [Nat.gcd_mul_right, Nat.gcd_comm D N, g, Nat.one_mul]
  rw [hg]
  exact ⟨Nat.mul_div_cancel _ c0, Nat.mul_div_cancel _ c0⟩
theorem low_int {n d t b : Int} (h : n * b = d * t) (n0 : 0 ≤ n) (d0 : 0 < d) (b0 : 0 < b) (g : Nat.gcd n.natAbs d.natAbs = 1) : t / gN t b = n ∧ b / gN t b = d := by
  have t0 : 0 ≤ t := by
    rcases Int.lt_or_le t 0 with q | q
    · have h1 : d * t < 0 := Int.mul_neg_of_pos_of_neg d0 q
      have h2 : 0 ≤ n * b := Int.mul_nonneg n0 (by omega)
      omega
    · exact q
  obtain ⟨N, rfl⟩ : ∃ N : Nat, n = (N : Int) := ⟨n.toNat, by omega⟩
  obtain ⟨D, rfl⟩ : ∃ N : Nat, d = (N : Int) := ⟨d.toNat, by omega⟩
  obtain ⟨T, rfl⟩ : ∃ N : Nat, t = (N : Int) := ⟨t.toNat, by omega⟩
  obtain ⟨B, rfl⟩ : ∃ N : Nat, b = (N : Int) := ⟨b.toNat, by omega⟩
  have h' : N * B = D * T := by
    have : ((N * B : Nat) : Int) = ((D * T : Nat) : Int) := by rw [Int.natCast_mul, Int.natCast_mul]; exact h
    omega
  obtain ⟨e1, e2⟩ := low_nat h' (by omega) (by omega) g
  have eg : gN (T : Int) (B : Int) = ((Nat.gcd B T : Nat) : Int) := rfl
  rw [eg, ← Int.natCast_ediv, ← Int.natCast_ediv, e1, e2]
  exact ⟨rfl, rfl⟩
theorem at_int {l : List Int} {i : Nat} {x : V} (hx : (l.map V.int)[i]? = some x) : ∃ z, l[i]? = some z ∧ x = .int z := by
  rw [List.getElem?_map] at hx
  cases q : l[i]? with
  | none => rw [q] at hx; cases hx
  | some z => rw [q] at hx; exact ⟨z, rfl, (Option.some.inj hx).symm⟩
theorem rep_flat2 (l : List Int) (k : Nat) : (List.replicate k (l.map V.int)).flatten = ((List.replicate k l).flatten).map V.int := by
  rw [List.map_flatten, List.map_replicate]
theorem len_rep (l : List Int) (k : Nat) : (List.replicate k l).flatten.length = k * l.length := by
  induction k with
  | zero => simp
  | succ k ih => rw [List.replicate_succ, List.flatten_cons, List.length_append, ih, Nat.succ_mul, Nat.add_comm]
/-! ### a ring of many rounds -/
def Rnd (R R' : List Int) : Prop := R' ≠ [] ∧ ∃ q, R = (List.replicate q R').flatten
theorem nb_rep (b : Int) (l : List Int) (q : Nat) : nb b (List.replicate q l).flatten * (b ^ l.length - 1) = nb b l * (b ^ (q * l.length) - 1) := by
  induction q with
  | zero => simp [nb]
  | succ q ih =>
    rw [List.replicate_succ, List.flatten_cons, nb_app, len_rep, Int.add_mul, ih, Nat.succ_mul, Int.pow_add]
    generalize nb b l = x
    generalize b ^ (q * l.length) = y
    generalize b ^ l.length = z
    simp only [Int.mul_sub, Int.mul_one, Int.mul_assoc]
    omega
theorem red_cross {t b t' b' : Int} (h : t' * b = b' * t) (t0 : 0 ≤ t') (b0 : 0 < b) (b1 : 0 < b') : t / gN t b = t' / gN t' b' ∧ b / gN t b = b' / gN t' b' := by
  obtain ⟨g, hg⟩ : ∃ g, g = gN t' b' := ⟨_, rfl⟩
  have gp : 0 < g := by
    rw [hg]; unfold gN
    have : 0 < Nat.gcd b'.natAbs t'.natAbs := Nat.gcd_pos_of_pos_left _ (by omega)
    omega
  have gt : g ∣ t' := by rw [hg]; unfold gN; exact Int.ofNat_dvd_left.mpr (Nat.gcd_dvd_right _ _)
  have gb : g ∣ b' := by rw [hg]; unfold gN; exact Int.ofNat_dvd_left.mpr (Nat.gcd_dvd_left _ _)
  obtain ⟨n, hn⟩ := gt
  obtain ⟨d, hd⟩ := gb
  have en : t' / g = n := by rw [hn]; exact Int.mul_ediv_cancel_left _ (by omega)
  have ed : b' / g = d := by rw [hd]; exact Int.mul_ediv_cancel_left _ (by omega)
  have n0 : 0 ≤ n := by
    rcases Int.lt_or_le n 0 with q | q
    · have := Int.mul_neg_of_pos_of_neg gp q
      omega
    · exact q
  have d0 : 0 < d := by
    rcases Int.lt_or_le 0 d with q | q
    · exact q
    · have := Int.mul_nonpos_of_nonneg_of_nonpos (show 0 ≤ g by omega) q
      omega
  have gc : Nat.gcd n.natAbs d.natAbs = 1 := by
    have e1 : t'.natAbs = g.natAbs * n.natAbs := by rw [hn, Int.natAbs_mul]
    have e2 : b'.natAbs = g.natAbs * d.natAbs := by rw [hd, Int.natAbs_mul]
    have e3 : g.natAbs = Nat.gcd b'.natAbs t'.natAbs := by rw [hg]; rfl
    rw [e1, e2, Nat.gcd_mul_left] at e3
    have e4 : g.natAbs * Nat.gcd d.natAbs n.natAbs = g.natAbs * 1 := by rw [← e3, Nat.mul_one]
    rw [Nat.gcd_comm]
    exact Nat.eq_of_mul_eq_mul_left (by omega) e4
  have h2 : n * b = d * t := by
    rw [hn, hd, Int.mul_assoc, Int.mul_assoc] at h
    exact Int.eq_of_mul_eq_mul_left (by omega) h
  have := low_int h2 n0 d0 b0 gc
  rw [← hg, en, ed]
  exact this
theorem rnd_q {R R' : List Int} (h : Rnd R R') (hR : R ≠ []) : ∃ q, 0 < q ∧ R = (List.replicate q R').flatten := by
  obtain ⟨_, q, e⟩ := h
  refine ⟨q, Nat.pos_of_ne_zero fun z => hR ?_, e⟩
  subst z; rw [e]; rfl
theorem rnd_digs {b : Int} {R R' : List Int} (h : Rnd R R') (hR : R ≠ []) (hd : ∀ x ∈ R, 0 ≤ x ∧ x < b) : ∀ x ∈ R', 0 ≤ x ∧ x < b := by
  obtain ⟨q, q0, e⟩ := rnd_q h hR
  intro x hx
  refine hd x ?_
  rw [e]
  exact List.mem_flatten.mpr ⟨R', List.mem_replicate.mpr ⟨by omega, rfl⟩, hx⟩
theorem rnd_len {R R' : List Int} (h : Rnd R R') (hR : R ≠ []) : R'.length ≤ R.length := by
  obtain ⟨q, q0, e⟩ := rnd_q h hR
  rw [e, len_rep]
  exact Nat.le_mul_of_pos_left _ q0
section
variable {P : Program} {w : World} {K : PySem.W.Frag} {mg : Str → Option Value} {base : Heap}
def rLenK (K : PySem.W.Frag) : List V → Hp → VK → Prop := fun xs H Q => ∃ p ys, xs = [V.ref p] ∧ (SqL K H p ys ∨ SqT K H p ys) ∧ Q (V.int (ys.length : Int)) H
def spOnce (K : PySem.W.Frag) : Sp := fun vs H Q _ => ∃ (v : V) (R : List Int) (G : Hp), vs = [v] ∧ Same G H ∧ Dq K G v (iTup R) ∧ R ≠ [] ∧ R.length ≤ 1000 ∧
  ∀ (R' : List Int) (v' : V) (G' H' : Hp), Nw G H G' H' → Dq K G' v' (iTup R') → Rnd R R' → Q v' H'
end
end My

namespace My
open PySem PySem.Spec PyProof.Rows L2
theorem pow_lt_2 {b : Int} (b0 : 2 ≤ b) (b1 : b ≤ 10) (k : Nat) : (b ^ k).natAbs < 2 ^ (4 * k + 1) := by
  have h : b.natAbs < 2 ^ 4 := by omega
  rw [Int.natAbs_pow]
  have h2 : b.natAbs ^ k ≤ (2 ^ 4) ^ k := Nat.pow_le_pow_left (by omega) k
  rw [← Nat.pow_mul] at h2
  have h3 : 2 ^ (4 * k) < 2 ^ (4 * k + 1) := Nat.pow_lt_pow_right (by decide) (by omega)
  omega
theorem nb_lt_2 {b : Int} (b0 : 2 ≤ b) (b1 : b ≤ 10) {l : List Int} (h : Digs b l) : (nb b l).natAbs < 2 ^ (4 * l.length + 1) := by
  obtain ⟨h1, h2⟩ := nb_rng (by omega) l h
  exact Nat.lt_of_le_of_lt (by omega) (pow_lt_2 b0 b1 l.length)
theorem pow_ge_1 {b : Int} (b0 : 2 ≤ b) (k : Nat) : 1 ≤ b ^ k := by
  have := pow_pos' (b := b) (by omega) k
  omega
theorem pow_ge_2 {b : Int} (b0 : 2 ≤ b) {k : Nat} (hk : 0 < k) : 2 ≤ b ^ k := by
  obtain ⟨j, rfl⟩ : ∃ j, k = j + 1 := ⟨k - 1, by omega⟩
  rw [Int.pow_succ]
  have h := pow_ge_1 b0 j
  have : 1 * b ≤ b ^ j * b := Int.mul_le_mul_of_nonneg_right h (by omega)
  omega
theorem bt_pos {b : Int} (b0 : 2 ≤ b) (S : List Int) {R : List Int} (hR : R ≠ []) : 0 < bt b S R := by
  unfold bt
  have h1 := pow_ge_1 b0 S.length
  have h2 := pow_ge_2 b0 (k := R.length) (by cases R with | nil => exact absurd rfl hR | cons _ _ => simp)
  exact Int.mul_pos (by omega) (by omega)
theorem tp_nn {b : Int} (b0 : 2 ≤ b) {S R : List Int} (hS : Digs b S) (hR : Digs b R) : 0 ≤ tp b S R := by
  unfold tp
  have h1 := (nb_rng (by omega) S hS).1
  have h2 := (nb_rng (by omega) R hR).1
  have h3 := pow_ge_1 b0 R.length
  exact Int.add_nonneg (Int.mul_nonneg h1 (by omega)) h2
theorem pow_sub_lt {b : Int} (b0 : 2 ≤ b) (b1 : b ≤ 10) (k : Nat) : (b ^ k - 1).natAbs < 2 ^ (4 * k + 1) := by
  have h := pow_ge_1 b0 k
  exact Nat.lt_of_le_of_lt (by omega) (pow_lt_2 b0 b1 k)
theorem bt_lt {b : Int} (b0 : 2 ≤ b) (b1 : b ≤ 10) {S R : List Int} (h : S.length + R.length ≤ 1900) : (bt b S R).natAbs < 2 ^ 8000 := by
  unfold bt
  have := wide_lt (pow_lt_2 b0 b1 S.length) (pow_sub_lt b0 b1 R.length)
  exact Nat.lt_of_lt_of_le this (Nat.pow_le_pow_right (by decide) (by omega))
section
variable {P : Program} {w : World} {K : PySem.W.Frag} {mg : Str → Option Value} {base : Heap}
theorem small_base {b : Int} (b0 : 2 ≤ b) (b1 : b ≤ 10) (x : Int) : CMul x b := .inr ⟨by omega, by omega⟩
theorem nb_take (b : Int) (l : List Int) {i : Nat} {x : Int} (h : l[i]? = some x) : nb b (l.take (i + 1)) = nb b (l.take i) * b + x := by
  rw [List.take_add_one, h]; exact nb_snoc b _ x
theorem bt_pos' {b : Int} (b0 : 2 ≤ b) (S : List Int) {R : List Int} (hR : R ≠ []) : 0 < bt b S R := bt_pos b0 S hR
theorem tp_bt_rnd {b : Int} (S R' : List Int) (q : Nat) : tp b S R' * bt b S (List.replicate q R').flatten = bt b S R' * tp b S (List.replicate q R').flatten := by
  unfold tp bt
  have h := nb_rep b R' q
  rw [len_rep]
  generalize nb b (List.replicate q R').flatten = x at h ⊢
  generalize nb b R' = y at h ⊢
  generalize b ^ (q * R'.length) = u at h ⊢
  generalize b ^ R'.length = v at h ⊢
  generalize nb b S = s
  generalize b ^ S.length = t
  have e : (s * (v - 1) + y) * (t * (u - 1)) = t * (s * (v - 1) * (u - 1) + y * (u - 1)) := by
    rw [Int.add_mul, Int.mul_add, Int.mul_left_comm (s * (v - 1)) t, Int.mul_left_comm y t]
  have e2 : t * (v - 1) * (s * (u - 1) + x) = t * (s * (v - 1) * (u - 1) + x * (v - 1)) := by
    rw [Int.mul_assoc, Int.mul_add (v - 1), Int.mul_comm (v - 1) x, ← Int.mul_assoc (v - 1) s, Int.mul_comm (v - 1) s]
  rw [e, e2, h]
/-- the fraction of stem and ring -/
def frD (b : Int) (S R : List Int) : PyData := .tuple [.int (tp b S R / gN (tp b S R) (bt b S R)), .int (bt b S R / gN (tp b S R) (bt b S R))]
def spFractionOf (K : PySem.W.Frag) : Sp := fun vs H Q _ => ∃ (b : Int) (x y : V) (S R : List Int) (G : Hp), vs = [.int b, x, y] ∧ 2 ≤ b ∧ b ≤ 10 ∧ Same G H ∧ Dq K G x (iTup S) ∧ Dq K G y (iTup R) ∧ R ≠ [] ∧ Digs b S ∧ Digs b R ∧ S.length + R.length ≤ 1000 ∧
  ∀ (v : V) (G' H' : Hp), Nw G H G' H' → Dq K G' v (frD b S R) → Q v H'
theorem frD_rnd {b : Int} (b0 : 2 ≤ b) {S R R' : List Int} (hS : Digs b S) (hd : Digs b R) (hR : R ≠ []) (h : Rnd R R') : frD b S R' = frD b S R := by
  have hd' := rnd_digs h hR hd
  obtain ⟨q, q0, e⟩ := rnd_q h hR
  have e1 := tp_bt_rnd (b := b) S R' q
  rw [← e] at e1
  obtain ⟨c1, c2⟩ := red_cross e1 (tp_nn b0 hS hd') (bt_pos b0 S hR) (bt_pos b0 S h.1)
  unfold frD
  rw [c1, c2]
end
end My

namespace My
open PySem PySem.Spec PyProof.Rows L2
theorem inV_int (r : Int) (l : List Int) : inV (.int r) (l.map V.int) = decide (r ∈ l) := by
  unfold inV
  rw [List.any_map]
  induction l with
  | nil => rfl
  | cons x l ih =>
    rw [List.any_cons, ih]
    by_cases h : r = x
    · subst h
      simp [eqV]
    · have h1 : (x == r) = false := beq_eq_false_iff_ne.mpr fun z => h z.symm
      show ((x == r) || decide (r ∈ l)) = decide (r ∈ x :: l)
      rw [h1, Bool.false_or]
      exact decide_eq_decide.mpr ⟨fun z => List.mem_cons_of_mem _ z, fun z => (List.mem_cons.mp z).resolve_left h⟩
theorem flat_ints (l : List Int) : (l.map V.int).all flatV = true := by
  rw [List.all_map]
  exact List.all_eq_true.mpr fun _ _ => rfl
def rl (b d n : Int) (m : Nat) : List Int := (List.range m).map (rs b d n)
theorem rl_succ (b d n : Int) (m : Nat) : rl b d n (m + 1) = rl b d n m ++ [rs b d n m] := by
  unfold rl; rw [List.range_succ, List.map_append]; rfl
theorem rl_len (b d n : Int) (m : Nat) : (rl b d n m).length = m := by unfold rl; rw [List.length_map, List.length_range]
theorem rl_get {b d n : Int} {m i : Nat} (h : i < m) : (rl b d n m)[i]? = some (rs b d n i) := by
  unfold rl; rw [List.getElem?_map, List.getElem?_range h]; rfl
theorem rl_mem {b d n : Int} {m : Nat} {r : Int} : r ∈ rl b d n m ↔ ∃ j, j < m ∧ rs b d n j = r := by
  unfold rl
  rw [List.mem_map]
  constructor
  · rintro ⟨j, h, e⟩; exact ⟨j, List.mem_range.mp h, e⟩
  · rintro ⟨j, h, e⟩; exact ⟨j, List.mem_range.mpr h, e⟩
theorem rep_flat (x : Int) (k : Nat) : (List.replicate k [V.int x]).flatten = (List.replicate k x).map V.int := by
  induction k with
  | zero => rfl
  | succ k ih => rw [List.replicate_succ, List.flatten_cons, ih, List.replicate_succ]; rfl
theorem nb_nines (b : Int) (k : Nat) : nb b (List.replicate k (b - 1)) = b ^ k - 1 := by
  induction k with
  | zero => simp [nb]
  | succ k ih =>
    rw [List.replicate_succ', nb_snoc, ih, Int.pow_succ, Int.sub_mul]
    omega
theorem nb_zeros (b : Int) (k : Nat) : nb b (List.replicate k 0) = 0 := by
  induction k with
  | zero => simp [nb]
  | succ k ih => rw [List.replicate_succ', nb_snoc, ih]; simp
theorem nb_scale (b : Int) (k : Nat) : nb b (1 :: List.replicate k 0) = b ^ k := by
  have := nb_app b [1] (List.replicate k 0)
  rw [nb_zeros, List.length_replicate] at this
  have e : nb b [1] = 1 := by simp [nb]
  rw [e] at this
  simpa using this
section
variable {P : Program} {w : World} {K : PySem.W.Frag} {mg : Str → Option Value} {base : Heap}
def spWorth (K : PySem.W.Frag) : Sp := fun vs H Q _ => ∃ (b : Int) (x y : V) (S R : List Int) (G : Hp), vs = [.int b, x, y] ∧ 2 ≤ b ∧ b ≤ 10 ∧ Same G H ∧ Dq K G x (iTup S) ∧ Dq K G y (iTup R) ∧ R ≠ [] ∧ Digs b S ∧ Digs b R ∧ S.length + R.length ≤ 900 ∧
  ∀ (v : V) (G' H' : Hp), Nw G H G' H' → Dq K G' v (frD b S R) → Q v H'
end
end My

namespace My
open PySem PySem.Spec PyProof.Rows L2
def less (S : List Int) : List Int := match S.reverse with
  | [] => []
  | z :: r => r.reverse ++ [z - 1]
theorem less_snoc (T : List Int) (z : Int) : less (T ++ [z]) = T ++ [z - 1] := by
  unfold less
  rw [List.reverse_append]
  show T.reverse.reverse ++ [z - 1] = T ++ [z - 1]
  rw [List.reverse_reverse]
def wOf (b : Int) (S R : List Int) : List (List Int × List Int) := if R = [0] ∧ S ≠ [] then [(S, R), (less S, [b - 1])] else [(S, R)]
def pairD (p : List Int × List Int) : PyData := .tuple [iTup p.1, iTup p.2]
def WR (b n d : Int) (W : List (List Int × List Int)) : Prop := (n = d ∧ W = [([], [b - 1])]) ∨ (n ≠ d ∧ ∃ m k, Dv b d n m k ∧ W = wOf b ((dl b d n m).take k) ((dl b d n m).drop k))
theorem WR.uniq {b n d : Int} {W W' : List (List Int × List Int)} (h : WR b n d W) (h' : WR b n d W') : W = W' := by
  rcases h with ⟨e, rfl⟩ | ⟨e, m, k, dv, rfl⟩
  · rcases h' with ⟨_, rfl⟩ | ⟨e', _⟩
    · rfl
    · exact absurd e e'
  · rcases h' with ⟨e', _⟩ | ⟨_, m', k', dv', rfl⟩
    · exact absurd e' e
    · obtain ⟨rfl, rfl⟩ := dv.uniq dv'
      rfl
structure Fra (b n d : Int) : Prop where
  b0 : 2 ≤ b
  b1 : b ≤ 10
  n0 : 0 ≤ n
  nd : n ≤ d
  d0 : 0 < d
  dz : d.natAbs < 2 ^ 8000
  soon : n ≠ d → Soon b d n
  gc : Nat.gcd n.natAbs d.natAbs = 1
theorem Fra.ask {b n d : Int} (h : Fra b n d) (z : n ≠ d) : Asked b d n := ⟨h.b0, h.b1, h.n0, by have := h.nd; omega, h.dz, h.soon z, h.gc⟩
def spWr (K : PySem.W.Frag) : Sp := fun vs H Q _ => ∃ (b n d : Int) (v : V) (G : Hp), vs = [.int b, v] ∧ Same G H ∧ Dq K G v (.tuple [.int n, .int d]) ∧ Fra b n d ∧
  ∀ W, WR b n d W → ∀ (q : Addr) (ws : List V) (G' H' : Hp), Nw G H G' H' → H' q = some (.lst ws) → G' q = none → H q = none → DqAll K G' ws (W.map pairD) → Q (.ref q) H'
theorem dq_pair {K : PySem.W.Frag} {G : Hp} {v : V} {n d : Int} (h : Dq K G v (.tuple [.int n, .int d])) : ∃ a, v = .ref a ∧ G a = some (.tup [.int n, .int d]) := dq_tup (l := [n, d]) h
theorem dq_two {K : PySem.W.Frag} {G : Hp} {v : V} {S R : List Int} (h : Dq K G v (.tuple [iTup S, iTup R])) : ∃ a x y, v = .ref a ∧ G a = some (.tup [.ref x, .ref y]) ∧ G x = some (.tup (S.map V.int)) ∧ G y = some (.tup (R.map V.int)) := by
  cases h with
  | tup hs ha =>
    cases ha with
    | cons h1 h2 =>
      cases h2 with
      | cons h2 h3 =>
        cases h3
        obtain ⟨x, rfl, hx⟩ := dq_tup h1
        obtain ⟨y, rfl, hy⟩ := dq_tup h2
        exact ⟨_, x, y, rfl, hs, hx, hy⟩
section
variable {P : Program} {w : World} {K : PySem.W.Frag} {mg : Str → Option Value} {base : Heap}
theorem atI_snoc (T : List Int) (z : Int) : atI ((T ++ [z]).map V.int) (-1) = some (.int z) := by
  rw [List.map_append]; exact atI_last _ _
theorem cut_last (T : List Int) (z : Int) : cutV ((T ++ [z]).map V.int) none (some (-1)) = T.map V.int := by
  unfold cutV
  have a1 : HT.sIx ((T ++ [z]).map V.int).length 0 none = 0 := rfl
  have a2 : HT.sIx ((T ++ [z]).map V.int).length ((T ++ [z]).map V.int).length (some (-1)) = T.length := by
    unfold HT.sIx
    simp only
    rw [if_pos (by decide), List.length_map, List.length_append, List.length_singleton]
    omega
  rw [a1, a2, List.drop_zero, Nat.sub_zero, List.map_append, List.take_left' (by rw [List.length_map])]
end
end My

namespace My
open PySem PySem.Spec PyProof.Rows L2
abbrev sSame : Stmt := topS 21
theorem walk_zipT {K : PySem.W.Frag} {a b : Addr} {xs ys : List V} {n : Nat} (hn : n = min xs.length ys.length) : Walk (RZ.ItzT K a b) n (fun H => SqT K H a xs ∧ SqT K H b ys) (YPair (fun i => xs[i]?) (fun i => ys[i]?)) := by
  subst hn
  refine ⟨fun i H hi q => ⟨xs, ys, xs[i]'(by omega), ys[i]'(by omega), q.1, q.2, List.getElem?_eq_getElem (by omega), List.getElem?_eq_getElem (by omega)⟩, fun H q => ⟨xs, ys, q.1, q.2, by omega⟩, fun i H v H' hi q y => ?_⟩
  obtain ⟨T, x, z, h1, h2, h3, h4, h5⟩ := y
  exact ⟨T, x, z, h1, h2, h3, h4 xs q.1, h5 ys q.2⟩
def Sh : Nat → PyData → Prop
  | 0, _ => False
  | n + 1, .list ds => ds.length ≤ 5000 ∧ ∀ e ∈ ds, Sh n e
  | n + 1, .tuple ds => ds.length ≤ 5000 ∧ ∀ e ∈ ds, Sh n e
  | _ + 1, .dict _ => False
  | _ + 1, _ => True
def spSame (K : PySem.W.Frag) (n : Nat) : Sp := fun vs H Q _ => ∃ (x y : V) (d : PyData), vs = [x, y] ∧ Dq K H x d ∧ Dq K H y d ∧ Sh n d ∧ ∀ H', Same H H' → Q (.bl true) H'
structure TxS (mg : Str → Option Value) : Prop where
  isi : mg "isinstance" = none
  int : mg "int" = none
  bool : mg "bool" = none
  str : mg "str" = none
  tuple : mg "tuple" = none
  list : mg "list" = none
  len : mg "len" = none
  zip : mg "zip" = none
theorem kit_list : ∀ d : PyData, kitB (tyN d) "list" = some (isT "list" d)
  | .none => by decide +kernel
  | .bool _ => (by decide +kernel : kitB "bool" "list" = some false)
  | .int _ => (by decide +kernel : kitB "int" "list" = some false)
  | .str _ => (by decide +kernel : kitB "str" "list" = some false)
  | .list _ => (by decide +kernel : kitB "list" "list" = some true)
  | .tuple _ => (by decide +kernel : kitB "tuple" "list" = some false)
  | .dict _ => (by decide +kernel : kitB "dict" "list" = some false)
theorem kit_str : ∀ d : PyData, kitB (tyN d) "str" = some (isT "str" d)
  | .none => by decide +kernel
  | .bool _ => (by decide +kernel : kitB "bool" "str" = some false)
  | .int _ => (by decide +kernel : kitB "int" "str" = some false)
  | .str _ => (by decide +kernel : kitB "str" "str" = some true)
  | .list _ => (by decide +kernel : kitB "list" "str" = some false)
  | .tuple _ => (by decide +kernel : kitB "tuple" "str" = some false)
  | .dict _ => (by decide +kernel : kitB "dict" "str" = some false)
/-- int or str -/
theorem kit_two {K : PySem.W.Frag} (d : PyData) : PySem.W.kitAny K (.type (tyN d)) [.type "int", .type "str"] = some ((isT "int" d || isT "bool" d) || isT "str" d) := by
  refine kitAny_cons (kit_ty (kit_int d)) (fun h => ?_) fun h => by rw [h]; rfl
  rw [h, Bool.false_or]
  refine kitAny_cons (kit_ty (kit_str d)) (fun h => ?_) fun h => h
  rw [h]; exact kitAny_nil
section
variable {P : Program} {w : World} {K : PySem.W.Frag} {mg : Str → Option Value} {base : Heap}
theorem scSame : FnScope ["found", "due", "one", "other"] ["found", "due"] (defScope sSame) := ⟨rfl, rfl, rfl, by decide +kernel, rfl, by decide +kernel, by decide +kernel⟩
theorem inV_true (n : Nat) : inV (.bl false) (List.replicate n (.bl true)) = false := by
  unfold inV
  induction n with
  | zero => rfl
  | succ n ih => rw [List.replicate_succ, List.any_cons, ih]; rfl
theorem flat_true (n : Nat) : (List.replicate n (V.bl true)).all flatV = true := by
  induction n with
  | zero => rfl
  | succ n ih => rw [List.replicate_succ, List.all_cons, ih]; rfl
theorem rep_snoc (n : Nat) (x : V) : List.replicate n x ++ [x] = List.replicate (n + 1) x := List.replicate_succ'.symm
theorem ok_same {f : Addr} {fd : FuncData} (F : Fun K "_law_same" "_law_same" sSame f fd) (T : TxS mg) (bS : Binds K fd ["found", "due"] []) (gS : mg "_law_same" = some (.ref f)) : ∀ n, FnOk P w K mg base CX0 n f fd ["found", "due"] (spSame K n)
  | 0 => ⟨fun vs H Q E h => by obtain ⟨_, _, _, _, _, _, z, _⟩ := h; exact z.elim, fun A outer s H args us vs Q E hr he hb hv h => by obtain ⟨_, _, _, _, _, _, z, _⟩ := h; exact z.elim⟩
  | n + 1 => by
    have GS := ok_same F T bS gS n
    refine F.ok scSame (fun vs H Q E h => ?_) (fun cdv A outer s H vs Q E hr h => ?_)
    · obtain ⟨x, y, d, rfl, _⟩ := h
      rfl
    · obtain ⟨x, y, d, rfl, hx, hy, hs, k⟩ := h
      refine ⟨_, (pss_cons (ps_if (PW.pt (pw_or (pt_cmpR op_isN (pv 1) pe_non (nomark _)) (pw_or1 (pt_cmpR op_isN (pv 0) pe_non (nomark _))))) (pss_one (ps_ret (pe_and (pe_cmpR op_isN (pv 1) pe_non (nomark _)) (pe_one (pe_cmpR op_isN (pv 0) pe_non (nomark _)))))) pss_nil)
      (pss_cons (ps_if (PW.pt (pw_or (pt_val (pe_callB call_isi (by rfl) T.isi boot_isinstance (pa_cons (pv 1) (pa_cons (pe_bltn (v := .ty "bool") (by rfl) T.bool boot_bool rfl) pa_nil)))) (pw_or1 (pt_val (pe_callB call_isi (by rfl) T.isi boot_isinstance (pa_cons (pv 0) (pa_cons (pe_bltn (v := .ty "bool") (by rfl) T.bool boot_bool rfl) pa_nil))))))) (pss_one (ps_ret (pe_and (pe_callB call_isi (by rfl) T.isi boot_isinstance (pa_cons (pv 1) (pa_cons (pe_bltn (v := .ty "bool") (by rfl) T.bool boot_bool rfl) pa_nil))) (pe_and (pe_callB call_isi (by rfl) T.isi boot_isinstance (pa_cons (pv 0) (pa_cons (pe_bltn (v := .ty "bool") (by rfl) T.bool boot_bool rfl) pa_nil))) (pe_one (pe_cmpR op_eq (pv 0) (pv 1) (nomark _))))))) pss_nil)
      (pss_cons (ps_if (pt_val (pe_callB call_isiT (by rfl) T.isi boot_isinstance (pa_cons (pv 1) (pa_cons (pe_tup (pa_cons (pe_bltn (v := .ty "int") (by rfl) T.int boot_int rfl) (pa_cons (pe_bltn (v := .ty "str") (by rfl) T.str boot_str rfl) pa_nil))) pa_nil)))) (pss_cons (ps_if (pt_cmpR op_ne (pe_callB call_isi (by rfl) T.isi boot_isinstance (pa_cons (pv 0) (pa_cons (pe_bltn (v := .ty "int") (by rfl) T.int boot_int rfl) pa_nil))) (pe_callB call_isi (by rfl) T.isi boot_isinstance (pa_cons (pv 1) (pa_cons (pe_bltn (v := .ty "int") (by rfl) T.int boot_int rfl) pa_nil))) (nomark _)) (pss_one (ps_ret pe_bl)) pss_nil)
      (pss_one (ps_ret (pe_and (pe_callB call_isiT (by rfl) T.isi boot_isinstance (pa_cons (pv 0) (pa_cons (pe_tup (pa_cons (pe_bltn (v := .ty "int") (by rfl) T.int boot_int rfl) (pa_cons (pe_bltn (v := .ty "str") (by rfl) T.str boot_str rfl) pa_nil))) pa_nil))) (pe_one (pe_cmpR op_eq (pv 0) (pv 1) (nomark _))))))) pss_nil)
      (pss_cons (ps_if (PW.pt (pw_or (pt_cmpR op_ne (pe_callB call_isi (by rfl) T.isi boot_isinstance (pa_cons (pv 1) (pa_cons (pe_bltn (v := .ty "tuple") (by rfl) T.tuple boot_tuple rfl) pa_nil))) (pe_callB call_isi (by rfl) T.isi boot_isinstance (pa_cons (pv 0) (pa_cons (pe_bltn (v := .ty "tuple") (by rfl) T.tuple boot_tuple rfl) pa_nil))) (nomark _)) (pw_or1 (pt_cmpR op_ne (pe_callB call_isi (by rfl) T.isi boot_isinstance (pa_cons (pv 1) (pa_cons (pe_bltn (v := .ty "list") (by rfl) T.list boot_list rfl) pa_nil))) (pe_callB call_isi (by rfl) T.isi boot_isinstance (pa_cons (pv 0) (pa_cons (pe_bltn (v := .ty "list") (by rfl) T.list boot_list rfl) pa_nil))) (nomark _))))) (pss_one (ps_ret pe_bl)) pss_nil)
      (pss_cons (ps_if (pt_cmpR op_ne (pe_callB call_len_seq (by rfl) T.len PySem.boot_len (pa_cons (pv 0) pa_nil)) (pe_callB call_len_seq (by rfl) T.len PySem.boot_len (pa_cons (pv 1) pa_nil)) (nomark _)) (pss_one (ps_ret pe_bl)) pss_nil)
      (pss_one (ps_ret (pe_cmpR op_notIn_seq pe_bl (pe_lc (own := [("one", 2), ("other", 3)]) (g := gTup K 2 (gCons (gName 2) (gCons (gName 3) gNil))) (tt := tYes) rfl scSame.nd (RZ.pi_zipA (by rfl) T.zip (pa_cons (pv 0) (pa_cons (pv 1) pa_nil))) (blkOk_by (N := ["found", "due", "one", "other"]) (sc := defScope sSame) (by decide +kernel)) (fun _ _ _ _ _ => (pg_tup (by rfl) (pgs_cons (pg_name (i := 2) scSame.nd rfl (Or.inl rfl)) (pgs_cons (pg_name (i := 3) scSame.nd rfl (Or.inl rfl)) pgs_nil)))) (fun _ _ _ _ _ => pts_nil) (fun _ _ _ _ _ => (pe_call GS hr (by rfl) gS F.kp bS .nil pass0 (pa_cons (pv 2) (pa_cons (pv 3) pa_nil))))) (by rfl))))))))), ?_⟩
      have e0 := Same.refl H
      -- what both kinds of rows come to
      have seq2 : ∀ (a b : Addr) (xs ys : List V) (ds : List PyData) {H : Hp}, DqAll K H xs ds → DqAll K H ys ds → ds.length ≤ 5000 → (∀ e ∈ ds, Sh n e) → ∀ (J : It) (S : Hp → Prop), (∀ H', Same H H' → S H') → Walk J xs.length S (YPair (fun i => xs[i]?) (fun i => ys[i]?)) → Same H H →
          ∀ (D : Addr), H D = none → ∀ (Qd : Hp → Prop), (∀ H', Same H H' → H' D = some (.lst (List.replicate xs.length (.bl true))) → Qd H') → ∃ W : Nat → Nat → Hp → Prop, (∃ m, W 0 m (upd H D (.lst []))) ∧ ∀ i m H3, W i m H3 → (J.stop i H3 ∧ Qd H3) ∨ (J.go i H3 ∧ ∃ Nx : Hp → Prop, (∀ H', Nx H' → ∃ m', m' < m ∧ W (i + 1) m' H') ∧
            ∀ x H', J.yld i H3 x H' → gTup K 2 (gCons (gName 2) (gCons (gName 3) gNil)) x (wipe [some (.ref a), some (.ref b), none, none] [2, 3]) H' fun σ2 H2 => wipe σ2 [2, 3] = wipe [some (.ref a), some (.ref b), none, none] [2, 3] ∧ tYes σ2 H2 fun c H3 =>
              if c = true then (tCall (spSame K n) [] E0 (tCons (tVar 2) (tCons (tVar 3) tNil))) σ2 H3 fun y H4 => ∃ acc, H4 D = some (.lst acc) ∧ acc.length < sizeLine ∧ Nx (upd H4 D (.lst (acc ++ [y]))) else Nx H3) := by
        intro a b xs ys ds H hxs hys hl hsh J S hS hw _ D nD Qd hQd
        have lx := hxs.len
        have ly := hys.len
        refine lc_it hw (fun i H2 => i ≤ xs.length ∧ Same H H2 ∧ H2 D = some (.lst (List.replicate i (.bl true)))) ⟨Nat.zero_le _, Same.upd nD, upd_same⟩ (fun i H2 _ q => hS H2 q.2.1) ?_ (fun H2 q => hQd H2 q.2.1 q.2.2)
        rintro i v H2 H3 hi ⟨_, s2, hD⟩ ⟨T, x, y, rfl, hT, rfl, ex, ey⟩
        obtain ⟨dx, hdx, qx⟩ := hxs.get ex
        obtain ⟨dy, hdy, qy⟩ := hys.get ey
        obtain rfl : dx = dy := Option.some.inj (hdx.symm.trans hdy)
        have s3 : Same H (upd H2 T (.tup [x, y])) := s2.trans (Same.upd hT)
        refine ⟨T, _, rfl, SqT.of upd_same, rfl, _, _, rfl, _, _, rfl, rfl, rfl, ?_⟩
        unfold tYes
        dsimp only
        rw [if_pos rfl]
        refine ⟨_, rfl, _, rfl, x, y, dx, rfl, qx.mono s3, qy.mono s3, hsh dx (List.mem_of_getElem? hdx), fun H4 s4 => ?_⟩
        have hDT : D ≠ T := ne_of_none hD hT
        have hD4 := s4 _ _ (show upd H2 T (.tup [x, y]) D = _ by rw [upd_ne hDT]; exact hD)
        refine ⟨_, hD4, by rw [List.length_replicate, sizeLine_eq]; omega, hi, fun c o hc => ?_, by rw [upd_same, rep_snoc]⟩
        rw [upd_ne (ne_of_none hc nD)]
        exact s4 c o (s3 c o hc)
      cases d with
      | none =>
        cases hx; cases hy
        exact ⟨_, rfl, rfl, _, rfl, iteT ⟨_, rfl, rfl, _, rfl, iteT ⟨_, rfl, rfl, k H e0⟩⟩⟩
      | bool b =>
        cases hx; cases hy
        refine ⟨_, rfl, rfl, _, rfl, iteF ⟨_, rfl, rfl, _, rfl, iteF ?_⟩⟩
        refine ⟨_, rfl, _, _, _, _, _, rfl, .ty _, (Dq.bl b).ty e0, kit_ty (kit_bool _), _, rfl, iteT ?_⟩
        refine ⟨_, rfl, _, _, _, _, _, rfl, .ty _, (Dq.bl b).ty e0, kit_ty (kit_bool _), _, rfl, iteT ?_⟩
        refine ⟨_, rfl, _, _, _, _, _, rfl, .ty _, (Dq.bl b).ty e0, kit_ty (kit_bool _), _, rfl, iteT ?_⟩
        refine ⟨_, rfl, _, rfl, rfl, ?_⟩
        rw [decide_eq_true rfl]
        exact k H e0
      | int i =>
        cases hx; cases hy
        refine ⟨_, rfl, rfl, _, rfl, iteF ⟨_, rfl, rfl, _, rfl, iteF ?_⟩⟩
        refine ⟨_, rfl, _, _, _, _, _, rfl, .ty _, (Dq.int i).ty e0, kit_ty (kit_bool _), _, rfl, iteF ⟨_, rfl, _, _, _, _, _, rfl, .ty _, (Dq.int i).ty e0, kit_ty (kit_bool _), _, rfl, iteF ?_⟩⟩
        refine ⟨_, rfl, (by show 2 ≤ sizeLine; decide), fun t1 nt1 => ⟨_, t1, _, _, _, _, rfl, upd_same, .cons (.ty _) (.cons (.ty _) .nil), (Dq.int i).ty (Same.upd nt1), kit_two _, _, rfl, iteT ?_⟩⟩
        have s1 : Same H (upd H t1 (.tup [.ty "int", .ty "str"])) := Same.upd nt1
        refine ⟨_, rfl, _, _, _, _, _, rfl, .ty _, (Dq.int i).ty s1, kit_ty (kit_int _), _, rfl, _, _, _, _, _, rfl, .ty _, (Dq.int i).ty s1, kit_ty (kit_int _), rfl, _, rfl, iteNS rfl ?_⟩
        refine ⟨_, rfl, (by show 2 ≤ sizeLine; decide), fun t2 nt2 => ⟨_, t2, _, _, _, _, rfl, upd_same, .cons (.ty _) (.cons (.ty _) .nil), (Dq.int i).ty (s1.trans (Same.upd nt2)), kit_two _, _, rfl, iteT ?_⟩⟩
        refine ⟨_, rfl, _, rfl, rfl, ?_⟩
        rw [decide_eq_true rfl]
        exact k _ (s1.trans (Same.upd nt2))
      | str x =>
        cases hx; cases hy
        refine ⟨_, rfl, rfl, _, rfl, iteF ⟨_, rfl, rfl, _, rfl, iteF ?_⟩⟩
        refine ⟨_, rfl, _, _, _, _, _, rfl, .ty _, (Dq.str x).ty e0, kit_ty (kit_bool _), _, rfl, iteF ⟨_, rfl, _, _, _, _, _, rfl, .ty _, (Dq.str x).ty e0, kit_ty (kit_bool _), _, rfl, iteF ?_⟩⟩
        refine ⟨_, rfl, (by show 2 ≤ sizeLine; decide), fun t1 nt1 => ⟨_, t1, _, _, _, _, rfl, upd_same, .cons (.ty _) (.cons (.ty _) .nil), (Dq.str x).ty (Same.upd nt1), kit_two _, _, rfl, iteT ?_⟩⟩
        have s1 : Same H (upd H t1 (.tup [.ty "int", .ty "str"])) := Same.upd nt1
        refine ⟨_, rfl, _, _, _, _, _, rfl, .ty _, (Dq.str x).ty s1, kit_ty (kit_int _), _, rfl, _, _, _, _, _, rfl, .ty _, (Dq.str x).ty s1, kit_ty (kit_int _), rfl, _, rfl, iteNS rfl ?_⟩
        refine ⟨_, rfl, (by show 2 ≤ sizeLine; decide), fun t2 nt2 => ⟨_, t2, _, _, _, _, rfl, upd_same, .cons (.ty _) (.cons (.ty _) .nil), (Dq.str x).ty (s1.trans (Same.upd nt2)), kit_two _, _, rfl, iteT ?_⟩⟩
        refine ⟨_, rfl, _, rfl, rfl, ?_⟩
        rw [decide_eq_true rfl]
        exact k _ (s1.trans (Same.upd nt2))
      | dict ds => exact hs.elim
      | list ds =>
        have hx0 := hx
        have hy0 := hy
        cases hx with
        | lst hxs hxa =>
        cases hy with
        | lst hys hya =>
        rename_i a xs b ys
        refine ⟨_, rfl, rfl, _, rfl, iteF ⟨_, rfl, rfl, _, rfl, iteF ?_⟩⟩
        refine ⟨_, rfl, _, _, _, _, _, rfl, .ty _, hy0.ty e0, kit_ty (kit_bool _), _, rfl, iteF ⟨_, rfl, _, _, _, _, _, rfl, .ty _, hx0.ty e0, kit_ty (kit_bool _), _, rfl, iteF ?_⟩⟩
        refine ⟨_, rfl, (by show 2 ≤ sizeLine; decide), fun t1 nt1 => ⟨_, t1, _, _, _, _, rfl, upd_same, .cons (.ty _) (.cons (.ty _) .nil), hy0.ty (Same.upd nt1), kit_two _, _, rfl, iteF ?_⟩⟩
        have s1 : Same H (upd H t1 (.tup [.ty "int", .ty "str"])) := Same.upd nt1
        refine ⟨_, rfl, _, _, _, _, _, rfl, .ty _, hy0.ty s1, kit_ty (kit_tuple _), _, rfl, _, _, _, _, _, rfl, .ty _, hx0.ty s1, kit_ty (kit_tuple _), rfl, _, rfl, iteNS rfl ?_⟩
        refine ⟨_, rfl, _, _, _, _, _, rfl, .ty _, hy0.ty s1, kit_ty (kit_list _), _, rfl, _, _, _, _, _, rfl, .ty _, hx0.ty s1, kit_ty (kit_list _), rfl, _, rfl, iteNS rfl ?_⟩
        have lx := hxa.len
        have ly := hya.len
        refine ⟨_, rfl, a, xs, rfl, .inl (SqL.of (s1 _ _ hxs)), _, rfl, b, ys, rfl, .inl (SqL.of (s1 _ _ hys)), rfl, _, rfl, ifF (by rw [lx, ly]; simp) ?_⟩
        refine ⟨_, rfl, _, rfl, a, b, xs, ys, rfl, .inl ⟨SqL.of (s1 _ _ hxs), SqL.of (s1 _ _ hys), fun D nD => ?_⟩⟩
        obtain ⟨W, w0, ws⟩ := seq2 a b xs ys ds (hxa.mono s1) (hya.mono s1) hs.1 hs.2 (Itz K a b) (fun H' => SqL K H' a xs ∧ SqL K H' b ys) (fun H' s' => ⟨SqL.of (s' _ _ (s1 _ _ hxs)), SqL.of (s' _ _ (s1 _ _ hys))⟩) (walk_zip (by rw [lx, ly]; simp)) (Same.refl _) D nD
          (fun H' => ∃ p zs, V.ref D = .ref p ∧ (SqL K H' p zs ∨ SqT K H' p zs) ∧ flatV (.bl false) = true ∧ zs.all flatV = true ∧ Q (.bl (!inV (.bl false) zs)) H') (fun H' s' hD => ⟨D, _, rfl, .inl (SqL.of hD), rfl, flat_true _, by rw [inV_true]; exact k H' (s1.trans s')⟩)
        exact ⟨W, w0, ws⟩
      | tuple ds =>
        have hx0 := hx
        have hy0 := hy
        cases hx with
        | tup hxs hxa =>
        cases hy with
        | tup hys hya =>
        rename_i a xs b ys
        refine ⟨_, rfl, rfl, _, rfl, iteF ⟨_, rfl, rfl, _, rfl, iteF ?_⟩⟩
        refine ⟨_, rfl, _, _, _, _, _, rfl, .ty _, hy0.ty e0, kit_ty (kit_bool _), _, rfl, iteF ⟨_, rfl, _, _, _, _, _, rfl, .ty _, hx0.ty e0, kit_ty (kit_bool _), _, rfl, iteF ?_⟩⟩
        refine ⟨_, rfl, (by show 2 ≤ sizeLine; decide), fun t1 nt1 => ⟨_, t1, _, _, _, _, rfl, upd_same, .cons (.ty _) (.cons (.ty _) .nil), hy0.ty (Same.upd nt1), kit_two _, _, rfl, iteF ?_⟩⟩
        have s1 : Same H (upd H t1 (.tup [.ty "int", .ty "str"])) := Same.upd nt1
        refine ⟨_, rfl, _, _, _, _, _, rfl, .ty _, hy0.ty s1, kit_ty (kit_tuple _), _, rfl, _, _, _, _, _, rfl, .ty _, hx0.ty s1, kit_ty (kit_tuple _), rfl, _, rfl, iteNS rfl ?_⟩
        refine ⟨_, rfl, _, _, _, _, _, rfl, .ty _, hy0.ty s1, kit_ty (kit_list _), _, rfl, _, _, _, _, _, rfl, .ty _, hx0.ty s1, kit_ty (kit_list _), rfl, _, rfl, iteNS rfl ?_⟩
        have lx := hxa.len
        have ly := hya.len
        refine ⟨_, rfl, a, xs, rfl, .inr (SqT.of (s1 _ _ hxs)), _, rfl, b, ys, rfl, .inr (SqT.of (s1 _ _ hys)), rfl, _, rfl, ifF (by rw [lx, ly]; simp) ?_⟩
        refine ⟨_, rfl, _, rfl, a, b, xs, ys, rfl, .inr ⟨SqT.of (s1 _ _ hxs), SqT.of (s1 _ _ hys), fun D nD => ?_⟩⟩
        obtain ⟨W, w0, ws⟩ := seq2 a b xs ys ds (hxa.mono s1) (hya.mono s1) hs.1 hs.2 (RZ.ItzT K a b) (fun H' => SqT K H' a xs ∧ SqT K H' b ys) (fun H' s' => ⟨SqT.of (s' _ _ (s1 _ _ hxs)), SqT.of (s' _ _ (s1 _ _ hys))⟩) (walk_zipT (by rw [lx, ly]; simp)) (Same.refl _) D nD
          (fun H' => ∃ p zs, V.ref D = .ref p ∧ (SqL K H' p zs ∨ SqT K H' p zs) ∧ flatV (.bl false) = true ∧ zs.all flatV = true ∧ Q (.bl (!inV (.bl false) zs)) H') (fun H' s' hD => ⟨D, _, rfl, .inl (SqL.of hD), rfl, flat_true _, by rw [inV_true]; exact k H' (s1.trans s')⟩)
        exact ⟨W, w0, ws⟩
end
end My

namespace My
open PySem PySem.Spec PyProof.Rows L2
section
variable {P : Program} {w : World} {K : PySem.W.Frag} {mg : Str → Option Value} {base : Heap}
end
end My

namespace My
open PySem PySem.Spec PyProof.Rows L2
abbrev sLFraction : Stmt := topS 23
/-! ### when a rest comes again -/
theorem pigeon : ∀ (n : Nat) (l : List Nat), l.Nodup → (∀ x ∈ l, x < n) → l.length ≤ n
  | 0, l, _, h => by
    cases l with
    | nil => simp
    | cons x r => exact absurd (h x List.mem_cons_self) (Nat.not_lt_zero _)
  | n + 1, l, hn, h => by
    have ih := pigeon n (l.erase n) (hn.erase n) fun x hx => by
      obtain ⟨h1, h2⟩ := (List.Nodup.mem_erase_iff hn).mp hx
      have := h x h2
      omega
    by_cases hm : n ∈ l
    · rw [List.length_erase_of_mem hm] at ih
      omega
    · rw [List.erase_of_not_mem hm] at ih
      omega
theorem soon_small {b d n : Int} (d0 : 0 < d) (d1 : d ≤ 1000) (n0 : 0 ≤ n) (nd : n < d) : Soon b d n := by
  refine Classical.byContradiction fun hno => ?_
  have inj : ∀ i j, i < j → j ≤ 1000 → rs b d n i ≠ rs b d n j := fun i j h1 h2 z => hno ⟨i, j, h1, h2, z⟩
  have nod : ((List.range 1001).map fun i => (rs b d n i).toNat).Nodup := by
    refine List.pairwise_map.mpr (List.Pairwise.imp_of_mem (R := (· < ·)) (fun {i j} hi hj hlt z => ?_) List.pairwise_lt_range)
    have h1 := List.mem_range.mp hj
    have r1 := rs_rng (b := b) d0 n0 nd i
    have r2 := rs_rng (b := b) d0 n0 nd j
    exact inj i j hlt (by omega) (by omega)
  have := pigeon d.toNat _ nod fun x hx => by
    obtain ⟨i, _, rfl⟩ := List.mem_map.mp hx
    have r1 := rs_rng (b := b) d0 n0 nd i
    omega
  rw [List.length_map, List.length_range] at this
  omega
theorem rs_pow {b d n : Int} (n0 : 0 ≤ n) (nd : n < d) : ∀ i, rs b d n i = n * b ^ i % d
  | 0 => by simp only [rs, Int.pow_zero, Int.mul_one]; exact (Int.emod_eq_of_lt n0 nd).symm
  | i + 1 => by
    show rs b d n i * b % d = _
    rw [rs_pow n0 nd i, Int.pow_succ, ← Int.mul_assoc, Int.mul_emod, Int.emod_emod_of_dvd _ (Int.dvd_refl d), ← Int.mul_emod]
theorem soon_dvd {b d n : Int} {s r : Nat} (n0 : 0 ≤ n) (nd : n < d) (r0 : 1 ≤ r) (hs : s + r ≤ 1000) (h : d ∣ b ^ s * (b ^ r - 1)) : Soon b d n := by
  refine ⟨s, s + r, by omega, hs, ?_⟩
  rw [rs_pow n0 nd, rs_pow n0 nd]
  refine (Int.emod_eq_emod_iff_emod_sub_eq_zero.mpr ?_).symm
  have e : n * b ^ (s + r) - n * b ^ s = n * (b ^ s * (b ^ r - 1)) := by
    rw [Int.pow_add, Int.mul_sub (b ^ s), Int.mul_one, Int.mul_sub]
  rw [e]
  exact Int.emod_eq_zero_of_dvd (Int.dvd_trans h ⟨n, Int.mul_comm _ _⟩)
/-! ### lowest terms -/
structure Low (a b n d : Int) : Prop where
  n0 : 0 ≤ n
  nd : n ≤ d
  d0 : 0 < d
  gc : Nat.gcd n.natAbs d.natAbs = 1
  dv : d ∣ b
  db : d ≤ b
theorem low_red {a b : Int} (a0 : 0 ≤ a) (ab : a ≤ b) (b0 : 0 < b) : Low a b (a / gN a b) (b / gN a b) := by
  obtain ⟨A, rfl⟩ : ∃ N : Nat, a = (N : Int) := ⟨a.toNat, by omega⟩
  obtain ⟨B, rfl⟩ : ∃ N : Nat, b = (N : Int) := ⟨b.toNat, by omega⟩
  have eg : gN (A : Int) (B : Int) = ((Nat.gcd B A : Nat) : Int) := rfl
  have gp : 0 < Nat.gcd B A := Nat.gcd_pos_of_pos_left _ (by omega)
  have dB := Nat.gcd_dvd_left B A
  rw [eg, ← Int.natCast_ediv, ← Int.natCast_ediv]
  have hb : 0 < B / Nat.gcd B A := Nat.div_pos (Nat.le_of_dvd (by omega) dB) gp
  refine ⟨Int.natCast_nonneg _, Int.ofNat_le.mpr (Nat.div_le_div_right (by omega)), Int.natCast_pos.mpr hb, ?_, ?_, Int.ofNat_le.mpr (Nat.div_le_self _ _)⟩
  · rw [Nat.gcd_comm]
    exact Nat.coprime_div_gcd_div_gcd gp
  · exact Int.natCast_dvd_natCast.mpr (Nat.div_dvd_of_dvd dB)
theorem tp_le {b : Int} (b0 : 2 ≤ b) {S R : List Int} (hS : Digs b S) (hR : Digs b R) : tp b S R ≤ bt b S R := by
  unfold tp bt
  have h1 := (nb_rng (by omega) S hS).2
  have h2 := (nb_rng (by omega) R hR).2
  have h3 := pow_ge_1 b0 R.length
  have h4 : (nb b S + 1) * (b ^ R.length - 1) ≤ b ^ S.length * (b ^ R.length - 1) := Int.mul_le_mul_of_nonneg_right (by omega) (by omega)
  rw [Int.add_mul, Int.one_mul] at h4
  omega
/-- the pen moves, what stands grows -/
theorem fra_small {b n d : Int} (b0 : 2 ≤ b) (b1 : b ≤ 10) (n0 : 0 ≤ n) (nd : n ≤ d) (d0 : 0 < d) (d1 : d ≤ 1000) (g : Nat.gcd n.natAbs d.natAbs = 1) : Fra b n d :=
  ⟨b0, b1, n0, nd, d0, Nat.lt_of_le_of_lt (show d.natAbs ≤ 1000 by omega) (by decide), fun z => soon_small d0 d1 n0 (by omega), g⟩
theorem fra_dvd {b n d : Int} {s r : Nat} (b0 : 2 ≤ b) (b1 : b ≤ 10) (n0 : 0 ≤ n) (nd : n ≤ d) (d0 : 0 < d) (r0 : 1 ≤ r) (hs : s + r ≤ 1000) (h : d ∣ b ^ s * (b ^ r - 1)) (g : Nat.gcd n.natAbs d.natAbs = 1) : Fra b n d := by
  refine ⟨b0, b1, n0, nd, d0, ?_, fun z => soon_dvd n0 (by omega) r0 (by omega) h, g⟩
  have h1 := pow_ge_1 b0 s
  have h2 := pow_ge_2 b0 (k := r) r0
  have hp : 0 < b ^ s * (b ^ r - 1) := Int.mul_pos (by omega) (by omega)
  have hle := Int.le_of_dvd hp h
  have hlt := wide_lt (pow_lt_2 b0 b1 s) (pow_sub_lt b0 b1 r)
  refine Nat.lt_of_le_of_lt (show d.natAbs ≤ (b ^ s * (b ^ r - 1)).natAbs by omega) (Nat.lt_of_lt_of_le hlt (Nat.pow_le_pow_right (by decide) (by omega)))
theorem fra_worth {b : Int} {S R : List Int} (b0 : 2 ≤ b) (b1 : b ≤ 10) (hS : Digs b S) (hR : Digs b R) (hn : R ≠ []) (hl : S.length + R.length ≤ 1000) :
    Fra b (tp b S R / gN (tp b S R) (bt b S R)) (bt b S R / gN (tp b S R) (bt b S R)) ∧ Nat.gcd (tp b S R / gN (tp b S R) (bt b S R)).natAbs (bt b S R / gN (tp b S R) (bt b S R)).natAbs = 1 := by
  have lw := low_red (tp_nn b0 hS hR) (tp_le b0 hS hR) (bt_pos b0 S hn)
  exact ⟨fra_dvd b0 b1 lw.n0 lw.nd lw.d0 (s := S.length) (r := R.length) (by cases R with | nil => exact absurd rfl hn | cons _ _ => simp) hl lw.dv lw.gc, lw.gc⟩
structure Mv (p : Addr) (G H G' H' : Hp) : Prop where
  gg : Same G G'
  gh : Same G' H'
  bt : But p H H'
  old : ∀ b, b ≠ p → H b ≠ none → G' b = G b
  gp : G' p = none
theorem Mv.trans {p : Addr} {G H G1 H1 G2 H2 : Hp} (a : Mv p G H G1 H1) (b : Mv p G1 H1 G2 H2) : Mv p G H G2 H2 :=
  ⟨a.gg.trans b.gg, b.gh, a.bt.trans b.bt, fun c n h => by
    have h1 : H1 c ≠ none := by
      cases q : H c with
      | none => exact absurd q h
      | some o => rw [a.bt c o n q]; exact fun z => nomatch z
    rw [b.old c n h1, a.old c n h], b.gp⟩
theorem Mv.nw {p : Addr} {G H G1 H1 : Hp} (m : Nw G H G1 H1) (h : H p ≠ none) (n : G p = none) : Mv p G H G1 H1 := ⟨m.gg, m.gh, But.of m.hh, fun b _ => m.old b, by rw [m.old p h]; exact n⟩
theorem Mv.take {p : Addr} {G H H1 : Hp} (e : Same G H) (n : G p = none) (b : But p H H1) : Mv p G H G H1 := ⟨Same.refl G, same_but e n b, b, fun _ _ _ => rfl, n⟩
theorem Mv.more {p : Addr} {G H G1 H1 H2 : Hp} (m : Mv p G H G1 H1) (s : Same H1 H2) : Mv p G H G1 H2 := ⟨m.gg, m.gh.trans s, m.bt.trans (But.of s), m.old, m.gp⟩
def spLFraction (K : PySem.W.Frag) : Sp := fun vs H Q _ => ∃ (p pc : Addr) (b M : Int) (t : Nat) (G : Hp), vs = [.ref p, .int b, .int M] ∧ 1 ≤ M ∧ M ≤ 1000 ∧ 2 ≤ b ∧ b ≤ 10 ∧ PenC H p pc t ∧ t + 10 < 2 ^ 29 ∧ Same G H ∧ G p = none ∧
  ∀ (v : V) (n d : Int) (G' H' : Hp), Mv p G H G' H' → PenC H' p pc (t + 4) → Dq K G' v (.tuple [.int n, .int d]) → 0 ≤ n → n ≤ d → 0 < d → d ≤ M → Nat.gcd n.natAbs d.natAbs = 1 → Q v H'
def spLDigits (K : PySem.W.Frag) : Sp := fun vs H Q _ => ∃ (p pc : Addr) (b : Int) (lo hi : Nat) (t : Nat) (G : Hp), vs = [.ref p, .int b, .int lo, .int hi] ∧ 2 ≤ b ∧ b ≤ 10 ∧ lo ≤ hi ∧ hi ≤ 100 ∧ PenC H p pc t ∧ t + 1000 < 2 ^ 29 ∧ Same G H ∧ G p = none ∧
  ∀ (v : V) (l : List Int) (G' H' : Hp), Mv p G H G' H' → PenC H' p pc (t + 1 + hi) → Dq K G' v (iTup l) → Digs b l → lo ≤ l.length → l.length ≤ hi → Q v H'
structure TxF (mg : Str → Option Value) : Prop where
  max : mg "max" = none
  int : mg "int" = none
  range : mg "range" = none
  tuple : mg "tuple" = none
section
variable {P : Program} {w : World} {K : PySem.W.Frag} {mg : Str → Option Value} {base : Heap}
theorem scLFraction : FnScope ["pen", "base", "most", "way", "whole"] ["pen", "base", "most"] (defScope sLFraction) := ⟨rfl, rfl, rfl, by decide +kernel, rfl, by decide +kernel, by decide +kernel⟩
theorem ok_lfraction {f fT fR : Addr} {fd fdT fdR : FuncData} (F : Fun K "_law_fraction" "_law_fraction" sLFraction f fd) (T : TxF mg)
    (FT : Fun K "_law_take" "_law_take" sTake fT fdT) (GT : FnOk P w K mg base CX0 2 fT fdT ["pen", "many"] spTakeC) (bT : Binds K fdT ["pen", "many"] []) (gT : mg "_law_take" = some (.ref fT))
    (FR : Fun K "_law_reduced" "_law_reduced" sRed fR fdR) (GR : FnOk P w K mg base CX0 1 fR fdR ["top", "whole"] spRed) (bR : Binds K fdR ["top", "whole"] []) (gR : mg "_law_reduced" = some (.ref fR)) :
    FnOk P w K mg base CX0 3 f fd ["pen", "base", "most"] (spLFraction K) := by
  refine F.ok scLFraction (fun vs H Q E h => ?_) (fun cdv A outer s H vs Q E hr h => ?_)
  · obtain ⟨p, pc, b, M, t, G, rfl, _⟩ := h
    rfl
  · obtain ⟨p, pc, b, M, t, G, rfl, M0, M1, b0, b1, PA, ht, e, np, k⟩ := h
    have hr2 := hr
    have hr1 : Room 1 _ := hr.mono (by decide)
    refine ⟨_, (pss_cons (ps_set (i := 3) scLFraction.nd rfl (Or.inl rfl) (pe_call GT hr2 (by rfl) gT FT.kp bT .nil pass0 (pa_cons (pv 0) (pa_cons pe_int pa_nil))))
      (pss_cons (ps_set (i := 4) scLFraction.nd rfl (Or.inl rfl) (pe_op op_add pe_int (pe_call GT hr2 (by rfl) gT FT.kp bT .nil pass0 (pa_cons (pv 0) (pa_cons (pv 2) pa_nil)))))
      (C8.pss_cut (ps_if (pt_cmpR op_gt (pv 3) pe_int (nomark _)) (pss_cons (ps_set (i := 4) scLFraction.nd rfl (Or.inl rfl) (pe_ix ix_list (pe_lst (pa_cons pe_int (pa_cons (pv 1) (pa_cons (pe_op op_mul (pv 1) (pv 1)) (pa_cons (pe_op op_mul (pe_op op_mul (pv 1) (pv 1)) (pv 1)) pa_nil))))) (pe_call GT hr2 (by rfl) gT FT.kp bT .nil pass0 (pa_cons (pv 0) (pa_cons pe_int pa_nil))) (fun _ _ => rfl)))
      (pss_cons (ps_while PassesOwn.never (pt_cmpR op_gt (pv 4) (pv 2) (nomark _)) (pss_one (ps_set (i := 4) scLFraction.nd rfl (Or.inl rfl) (pe_op op_fdivW (pv 4) (pv 1)))))
      (pss_one (ps_set (i := 4) scLFraction.nd rfl (Or.inl rfl) (pe_callB (call_max2 rfl) (by rfl) T.max boot_max (pa_cons pe_int (pa_cons (pe_op op_sub (pv 4) (pe_callTy call_int1 (by rfl) T.int boot_int (pa_cons (pe_cmpR op_eq (pv 3) pe_int (nomark _)) pa_nil))) pa_nil))))))) pss_nil)
      (pss_one (ps_ret (pe_call GR hr1 (by rfl) gR FR.kp bR .nil pass0 (pa_cons (pe_call GT hr2 (by rfl) gT FT.kp bT .nil pass0 (pa_cons (pv 0) (pa_cons (pe_op op_add (pv 4) pe_int) pa_nil))) (pa_cons (pv 4) pa_nil)))))))), ?_⟩
    refine ⟨_, rfl, p, pc, 3, t, rfl, by decide, by decide, PA, by omega, fun way H1 w0 w1 b1' P1 => ?_⟩
    refine ⟨_, rfl, _, rfl, p, pc, M, _, rfl, by omega, Nat.lt_of_le_of_lt (show M.natAbs ≤ 1000 by omega) (by decide), P1, by omega, fun u H2 u0 u1 b2' P2 => ?_⟩
    refine ⟨_, _, rfl, rfl, ?_⟩
    have bt2 := b1'.trans b2'
    refine ⟨fun σ H3 => ∃ z : Int, σ = [some (.ref p), some (.int b), some (.int M), some (.int way), some (.int z)] ∧ 1 ≤ z ∧ z ≤ M ∧ But p H H3 ∧ PenC H3 p pc (t + 3), ?_, ?_⟩
    · refine ⟨_, rfl, _, _, rfl, rfl, _, rfl, ite2 (fun _ => ?_) (fun _ => ⟨1 + u, rfl, by omega, by omega, bt2, P2.same (Same.refl _) (by omega)⟩)⟩
      refine ⟨_, rfl, _, rfl, _, rfl, _, _, rfl, rfl, small_base b0 b1 _, _, rfl, _, rfl, _, _, rfl, rfl, small_base b0 b1 _, _, rfl, _, _, rfl, rfl, small_base b0 b1 _, (by show 4 ≤ sizeLine; decide), fun l nl => ?_⟩
      refine ⟨_, rfl, p, pc, 4, _, rfl, by decide, by decide, P2.same (Same.upd nl) (Nat.le_refl _), by omega, fun m H3 m0 m1 b3' P3 => ?_⟩
      have lp : l ≠ p := pen_not P2.any nl
      obtain ⟨z, j, hz, hzj⟩ : ∃ (z : Int) (j : Nat), atI [V.int 1, V.int b, V.int (b * b), V.int (b * b * b)] m = some (.int z) ∧ z = b ^ j := by
        have h : m = 0 ∨ m = 1 ∨ m = 2 ∨ m = 3 := by omega
        rcases h with rfl | rfl | rfl | rfl
        · exact ⟨_, 0, rfl, by rw [Int.pow_zero]⟩
        · exact ⟨_, 1, rfl, by rw [Int.pow_succ, Int.pow_zero, Int.one_mul]⟩
        · exact ⟨_, 2, rfl, by rw [Int.pow_succ, Int.pow_succ, Int.pow_zero, Int.one_mul]⟩
        · exact ⟨_, 3, rfl, by rw [Int.pow_succ, Int.pow_succ, Int.pow_succ, Int.pow_zero, Int.one_mul]⟩
      refine ⟨l, _, m, _, rfl, rfl, SqL.of (b3' _ _ lp upd_same), hz, ?_⟩
      subst hzj
      refine while_by (fun σ H4 => ∃ j : Nat, σ = [some (.ref p), some (.int b), some (.int M), some (.int way), some (.int (b ^ j))] ∧ H4 = H3) (fun σ _ => match σ with | [_, _, _, _, some (.int y)] => y.natAbs | _ => 0) ⟨j, rfl, rfl⟩ ?_ (fun σ H4 Q1 Q2 m h => let ⟨v, e1, v2, e2, i, j, e3, e4, u, e5, h2⟩ := h; ⟨v, e1, v2, e2, i, j, e3, e4, u, e5, m _ _ h2⟩)
      rintro σ H4 ⟨j, rfl, rfl⟩
      have p1 := pow_ge_1 b0 j
      refine ⟨_, rfl, _, rfl, _, _, rfl, rfl, _, rfl, ?_⟩
      by_cases hgt : M < b ^ j
      · refine ifT (decide_eq_true hgt) ?_
        obtain ⟨i, rfl⟩ : ∃ i, j = i + 1 := ⟨j - 1, by cases j with | zero => rw [Int.pow_zero] at hgt; omega | succ i => rfl⟩
        have p2 := pow_ge_1 b0 i
        have ed : b ^ (i + 1) / b = b ^ i := by rw [Int.pow_succ]; exact Int.mul_ediv_cancel _ (by omega)
        refine ⟨_, rfl, _, rfl, _, _, rfl, rfl, wide_div (b := 10) (by omega) (show b.natAbs < 2 ^ 10 by omega) (by decide) (by decide), ?_⟩
        refine ⟨⟨i, by rw [← ed]; rfl, rfl⟩, ?_⟩
        show (b ^ (i + 1) / b).natAbs < (b ^ (i + 1)).natAbs
        rw [ed, Int.pow_succ]
        have : b ^ i * 2 ≤ b ^ i * b := Int.mul_le_mul_of_nonneg_left b0 (by omega)
        omega
      refine ifF (decide_eq_false hgt) ?_
      generalize b ^ j = z at p1 hgt
      refine ⟨_, rfl, _, rfl, rfl, .inr ⟨_, rfl, _, _, rfl, rfl, _, _, rfl, ?_⟩⟩
      have bt4 := (bt2.trans (But.of (Same.upd nl))).trans b3'
      refine ⟨_, rfl, ?_, ?_, bt4, P3.same (Same.refl _) (by omega)⟩
      · (repeat' split) <;> omega
      · (repeat' split) <;> omega
    · rintro σ H3 ⟨z, rfl, z0, z1, bt3, P3⟩
      have g3 : Same G H3 := same_but e np bt3
      refine ⟨_, rfl, _, rfl, _, _, rfl, rfl, p, pc, z + 1, _, rfl, by omega, Nat.lt_of_le_of_lt (show (z + 1).natAbs ≤ 1001 by omega) (by decide), P3, by omega, fun m H4 m0 m1 b4' P4 => ?_⟩
      have g4 : Same G H4 := same_but g3 np b4'
      refine ⟨_, rfl, m, z, rfl, m0, by omega, Nat.lt_of_le_of_lt (show z.natAbs ≤ 1001 by omega) (by decide), fun q nq => ?_⟩
      have lw := low_red m0 (show m ≤ z by omega) (show 0 < z by omega)
      have nw := Nw.mk1 g4 nq (.tup [.int (m / gN m z), .int (z / gN m z)])
      refine k (.ref q) _ _ _ _ ((Mv.take e np (bt3.trans b4')).trans (Mv.nw nw P4.any.some np)) (P4.same nw.hh (by omega)) (.tup upd_same (.cons (.int _) (.cons (.int _) .nil))) lw.n0 lw.nd lw.d0 (by have := lw.db; omega) lw.gc
end
end My

namespace My
open PySem PySem.Spec PyProof.Rows L2
/-! ### displays, by what stays -/
section
variable {X : Cx} {es : List Expr} {t : TA} {pos : Pos}
theorem paMono (h : PA X es t) : PA X es (fun σ H R => ∃ S : List V → Hp → Prop, t σ H S ∧ ∀ vs H1, S vs H1 → R vs H1) :=
  ⟨fun pos pins s σ H Q I ⟨S, h1, h2⟩ => thn (h.run pos pins s σ H S I h1) fun us s1 ⟨vs, H1, I1, r, q⟩ => ⟨vs, H1, I1, r, h2 _ _ q⟩⟩
def tTupS (t : TA) : TE := fun σ H Q => t σ H fun vs H1 => vs.length ≤ sizeLine ∧ ∀ q H2, Same H1 H2 → H2 q = some (.tup vs) → Q (.ref q) H2
def tLstS (t : TA) : TE := fun σ H Q => t σ H fun vs H1 => vs.length ≤ sizeLine ∧ ∀ q H2, Same H1 H2 → H1 q = none → H2 q = some (.lst vs) → Q (.ref q) H2
theorem pe_tupS {x1} (h : PA X es t) : PE X (.Tuple es x1 pos) (tTupS t) := PE.imp (pe_tup (paMono h)) fun _ _ _ q => ⟨_, q, fun _ _ z => ⟨z.1, fun p np => z.2 p _ (Same.upd np) upd_same⟩⟩
theorem pe_lstS (h : PA X es t) : PE X (.List es pos) (tLstS t) := PE.imp (pe_lst (paMono h)) fun _ _ _ q => ⟨_, q, fun _ _ z => ⟨z.1, fun p np => z.2 p _ (Same.upd np) np upd_same⟩⟩
end
end My

namespace My
open PySem PySem.Spec PyProof.Rows L2
/-! ### an exception that is caught and kept -/
/-- the exception object at a, of the class cls, with the dict d -/
def ExK (cls : Value) (d : Option Addr) (a : Addr) : HO := .ext fun h => ∃ (ob : Obj) (fl : Array Value), h.get? a = some ob ∧ Zc cls d ob ∧ ob.data = .fields fl
theorem exK_ok {P : Program} {w : World} {H : Hp} {h : Heap} {cls : Value} {d : Option Addr} {a : Addr} {ob : Obj} {fl : Array Value} (e : h.get? a = some ob) (z : Zc cls d ob) (q : ob.data = .fields fl) : ObjOk P w H h a (ExK cls d a) :=
  ⟨⟨ob, fl, e, z, q⟩, ⟨ob, e⟩, fun _ _ ⟨o1, f1, e1, z1, q1⟩ k => ⟨o1, f1, k o1 e1, z1, q1⟩⟩
section
variable {X : Cx} {pins : List (Addr × Obj)} {σ : L2.St} {H : Hp} {s : Shared}
theorem track {a : Addr} {ob : Obj} {fl : Array Value} {cls : Value} {d : Option Addr} (I : Inv X pins σ H s) (e : s.heap.get? a = some ob) (z : Zc cls d ob) (q : ob.data = .fields fl)
    (na : H a = none) (n0 : X.s_0.heap.get? a = none) (nL : a ≠ X.env.locals) (nP : ∀ p ∈ X.pn ++ pins, p.1 ≠ a) : Inv X pins σ (upd H a (ExK cls d a)) s := by
  have cne : ∀ y c, X.env.cells.lookup y = some c → c ≠ a := fun y c hc w => by
    obtain ⟨v, o1, e1, e2⟩ := I.cell y c hc
    rw [w, e] at e1
    cases e1
    simp [q] at e2
  refine ⟨I.ok, I.os, I.bare, ⟨I.base.keep, I.base.slot, fun b o hb hn hx => ?_, I.base.there, fun b xs hb => ?_, fun b o u hb => ?_, fun b ps hb => ?_⟩, I.loc, I.cell, ?_, fun y c hc => ?_, fun p hp => ?_, I.hok.laidN (fun _ _ h => h) na (exK_ok e z q), I.len⟩
  · rw [upd_ne (fun w => by rw [w, n0] at hb; cases hb)]
    exact I.base.free b o hb hn hx
  · have t := I.base.tups b xs hb
    rw [upd_ne (ne_of_none t na)]; exact t
  · have t := I.base.frzs b o u hb
    rw [upd_ne (ne_of_none t na)]; exact t
  · obtain ⟨mo, t⟩ := I.base.tbls b ps hb
    exact ⟨mo, by rw [upd_ne (ne_of_none t na)]; exact t⟩
  · rw [upd_ne nL.symm]; exact I.free
  · rw [upd_ne (cne y c hc)]; exact I.freeC y c hc
  · obtain ⟨t1, t2, t3⟩ := I.pin p hp
    exact ⟨t1, by rw [upd_ne (nP p hp)]; exact t2, t3⟩
end
/-- what the clause wishes: every exception of the body is of the class; it stays known behind the suite -/
def wKeep (K : PySem.W.Frag) (c : Value) (i : Nat) (ts : Addr → Value → Option Addr → TS) (D : Ends) : WX := fun cls d σ H =>
  PySem.W.exmOne K cls c = some true ∧ ∀ a, H a = none → ts a cls d { nx := fun σ1 H1 => D.nx (σ1.set i none) (upd H1 a (ExK cls d a)), rt := fun _ _ => False, bk := fun _ _ => False, ct := fun _ _ => False } (σ.set i (some (.ref a))) H
section
variable {X : Cx} {x n : Str} {c : Value} {i : Nat} {body suite : List Stmt} {st0 : Stmt} {np po po2 : Pos} {tb : WX → TS} {ts : Addr → Value → Option Addr → TS}
theorem ps_try_keep (hst : X.stack = X.env :: X.outer) (hfr : X.env.frame = some X.env.locals) (hex : X.ex = []) (hnd : X.N.Nodup) (hat : X.N[i]? = some n) (hlo : X.env.kindOf n = some .local) (hnm : Names X x c)
    (hbo : ∀ (W : WX) (pl : List (Addr × Obj)) (xe : Value → Shared → Prop), Takes (X.tr pl xe) W → PassesOwn (model X.prog X.w) X.A X.env xe → PSs (X.tr pl xe) body (tb W))
    (hsu : ∀ (a : Addr) (ob : Obj) (cls : Value) (d : Option Addr) (pl : List (Addr × Obj)), Zc cls d ob → (∃ fl, ob.data = .fields fl) → PSs (X.suite a ((a, ob) :: pl)) (st0 :: suite) (ts a cls d)) :
    PS X (.Try body [.ExceptHandler (some (.Name x np)) (some n) (st0 :: suite) po2] [] [] po) (fun D σ H => tb (wKeep X.K c i ts D) D σ H) := by
  refine ⟨fun pins s σ H D I h => ?_⟩
  have AF : X.A.frames = some (X.env :: X.outer) := by rw [I.ok.frames, hst]
  refine wpAny_Try_except ?_
  have bodyRun := (hbo (wKeep X.K c i ts D) (X.pn ++ pins)
    (fun e t1 => wpAny (model X.prog X.w) X.A (noteFrame e X.env) (fun _ t2 => wpAny (model X.prog X.w) X.A (setFlight e none)
      (fun _ t3 => wpAny (model X.prog X.w) X.A (handleBy e X.env [.ExceptHandler (some (.Name x np)) (some n) (st0 :: suite) po2]) (SP X pins D) X.xe t3) X.xe t2) X.xe t1)
    (fun u t air => ?_) PassesOwn.looking).run [] s σ H D (I.toTry _) h
  · refine wpAny_mono bodyRun (fun f t sp => ?_) fun _ _ he => he
    cases f with
    | next =>
      obtain ⟨σ1, H1, J, q⟩ := sp
      exact wpAny_execs_nil ⟨σ1, H1, J.ofTry I.ok, q⟩
    | brk => obtain ⟨σ1, H1, J, q⟩ := sp; exact ⟨σ1, H1, J.ofTry I.ok, q⟩
    | cont => obtain ⟨σ1, H1, J, q⟩ := sp; exact ⟨σ1, H1, J.ofTry I.ok, q⟩
    | ret u => obtain ⟨v, σ1, H1, J, r, q⟩ := sp; exact ⟨v, σ1, H1, J.ofTry I.ok, r, q⟩
  · obtain ⟨a, B, sI, pins1, σ1, H1, cls, d, rfl, Jt, ground, rise, sky, na, eos, bare, isC, wish⟩ := air
    have J : Inv X pins σ1 H1 sI := Jt.ofTry I.ok
    rw [show (X.tr (X.pn ++ pins) _).stack = X.env :: X.outer from hst] at sky
    show wpAny (model X.prog X.w) X.A (noteFrame (.ref a) X.env) _ _ _
    refine Sky.land Zc.steady AF hfr sky fun h3 fly rise3 => ?_
    have J3 : Inv X pins σ1 H1 { t with heap := h3 } := J.landed ground fly.1 (rise.trans rise3) eos bare
    obtain ⟨ob3, fl3, e3, z3, q3⟩ := fly.there
    have offFr : a ∉ frs (X.env :: X.outer) := fun hm => by
      obtain ⟨_, o1, e1, hno⟩ := fly.2.2.1.mem hm
      rw [e3] at e1; cases e1
      exact hno _ q3
    have offSt : a ∉ frs X.stack := by rw [hst]; exact offFr
    have offL : a ≠ X.env.locals := fun w => offFr (List.mem_filterMap.mpr ⟨X.env, List.mem_cons_self, by rw [hfr, w]⟩)
    have offF : a ∉ X.fs := fun hm => by
      obtain ⟨en, hen, qq⟩ := List.mem_filterMap.mp hm
      exact offFr (List.mem_filterMap.mpr ⟨en, List.mem_cons_of_mem _ hen, qq⟩)
    have fresh : ∀ o, sI.heap.get? a ≠ some o := fun o w => by
      have := ground a o w offSt
      rw [fly.2.1] at this; cases this
    have n0 : X.s_0.heap.get? a = none := by
      cases w : X.s_0.heap.get? a with
      | none => rfl
      | some o =>
        obtain ⟨o1, w1⟩ := J.base.there a o w (by rw [hex]; exact fun z => nomatch z)
        exact absurd w1 (fresh o1)
    have nP : ∀ p ∈ X.pn ++ pins, p.1 ≠ a := fun p hp w => by
      obtain ⟨w1, _⟩ := J.pin p hp
      rw [w] at w1
      exact fresh _ w1
    have S3 := J3.suite e3 q3 na offL offF
    refine wpAny_handleBy_cons (codeAny_handlers_test ?_) (by intro w; cases w)
    have LT : PySem.W.Looks (model X.prog X.w) h3 (typeOf (.ref a)) cls := fun A Q E s1 k w => wpAny_typeOf_ref (k _ _ e3) (by rw [z3.1]; exact w)
    have LM := PySem.W.exm_one (M := model X.prog X.w) (J3.kIn) LT isC
    have test : ∀ {Q : Value → Shared → Prop} {E : Value → Shared → Prop}, Q c { t with heap := h3 } → wpAny (model X.prog X.w) (X.A.mark (some (.ref a))) (eval (.Name x np) X.env) Q E { t with heap := h3 } := fun {Q E} w => by
      obtain ⟨g1, g2, g3 | ⟨g3, g4, g5⟩⟩ := hnm
      · exact ld_glob (X := X.suite a ((a, ob3) :: (X.pn ++ pins))) S3 g1 g3 w g2
      · exact ld_blt (X := X.suite a ((a, ob3) :: (X.pn ++ pins))) S3 g1 g3 g4 w g5 g2
    refine test (LM.here (codeAny_handlers_suite_as ?_))
    refine HandSPX.lands_againZ fly fun h4 fly4 rise4 => ?_
    have J4 : Inv X pins σ1 H1 { t with heap := h4 } := J.landed ground fly4.1 ((rise.trans rise3).trans rise4) eos bare
    obtain ⟨ob4, fl4, e4, z4, q4⟩ := fly4.there
    refine store_ok (X := X.suite a ((a, ob4) :: (X.pn ++ pins))) (v := .ref a) (J4.suite e4 q4 na offL offF) hnd hat (.inl hlo) rfl (fun s5 S5 => ?_) (.inr hlo)
    refine wpAny_mono ((hsu a ob4 cls d (X.pn ++ pins) z4 ⟨_, q4⟩).run [] s5 _ H1 _ S5 (wish a na)) (fun f s6 sp => ?_) (fun _ _ w => False.elim w)
    cases f with
    | next =>
      obtain ⟨σ6, H6, S6, q6⟩ := sp
      obtain ⟨p1, p2, _⟩ := S6.pin (a, ob4) (List.mem_append_left _ List.mem_cons_self)
      have T6 := track (S6.unsuite I.ok) p1 z4 q4 p2 n0 offL nP
      exact gone_ok T6 hnd hat hlo fun s7 J7 => ⟨_, _, J7, q6⟩
    | brk => obtain ⟨_, _, _, w⟩ := sp; exact False.elim w
    | cont => obtain ⟨_, _, _, w⟩ := sp; exact False.elim w
    | ret u => obtain ⟨_, _, _, _, _, w⟩ := sp; exact False.elim w
end
end My

namespace My
open PySem PySem.Spec PyProof.Rows L2
/-! ### D.__init__(self, ..), D an own class that has none of its own -/
structure DInit (K : PySem.W.Frag) (D : Addr) : Prop where
  rd : PySem.W.readsIn K D (.type "type") = true
  ga : PySem.W.specialIn K (.ref D) "__getattribute__" = some (some (.builtin "type.__getattribute__"))
  ini : PySem.W.findCls K (.ref D) (.type "type") "__init__" = some (.val (.builtin "ValueError.__init__"))
section
variable {X : Cx} {e : Expr} {es : List Expr} {ta : TA} {x : Str} {D : Addr} {q1 q2 q3 : Pos}
theorem pe_dinit {pl : Sem Bool} (gx : Gl X x) (mx : X.mg x = some (.ref D)) (T : DInit X.K D) (args : PA X (e :: es) ta) (ndb : (x == ("__debug__" : Str)) = false := by decide)
    (he : eval (.Call (.Attribute (.Name x q1) "__init__" q2) (e :: es) [] q3) X.env = (do
      let owner ← eval (.Name x q1) X.env
      standAt q2.atName
      let (fn, pre) ← holding [owner] (getMethod owner "__init__" pl)
      callWith q3 fn pre (backTo q3 (starEach (e :: es) X.env)) (backToKw q3 (keywordEach [] X.env))) := by rfl)
    (h1 : starEach (e :: es) X.env = (false, eval e X.env) :: starEach es X.env := by rfl) (h2 : (backTo q3 (starEach es X.env)).any (·.1) = false := by rfl) :
    PE X (.Call (.Attribute (.Name x q1) "__init__" q2) (e :: es) [] q3) (tVeI X.K ta) := by
  refine ⟨fun pins s σ H Q I want => ?_⟩
  refine PySem.W.methodCall_KW (ld_glob I gx mx (PySem.W.method_cls I.kIn T.ga (PySem.W.cls_value I.kIn T.rd T.ini (by decide +kernel) ?_)) ndb) he
  show wpAny _ _ (callWith q3 (Value.builtin "ValueError.__init__") [] (backTo q3 (starEach (e :: es) X.env)) []) _ _ _
  refine PyProof.Rows.callWith_method1 (thn (args.run q3 pins _ σ H _ (I.tok _) want) fun us t ⟨vs, H1, J, rel, a, C, ws, ev, few, TC, at_a, q⟩ => ?_) h1 h2
  subst ev
  cases rel with
  | @cons _ u0 _ ur r0 rs =>
    obtain rfl : u0 = Value.ref a := r0
    exact oinit_ok TC J at_a (by rw [← Paired.length rs, sizeLine_eq]; omega) fun t' J' => ⟨.non, H1, J', rfl, q⟩
end
/-! ### C(e, ..) as a value, C an own exception class with its own __init__ -/
def tMkV (C : Addr) (sp : Sp) (ta : TA) : TE := fun σ H Q => ta σ H fun vs H1 => vs.length ≤ 1000 ∧ ∀ a, H1 a = none → sp (.ref a :: vs) (upd H1 a (exo a C none)) (fun v H2 => v = .non ∧ Q (.ref a) H2) (fun _ _ _ => False)
section
variable {X : Cx} {e : Expr} {es : List Expr} {ta : TA} {x : Str} {C fI : Addr} {q1 q3 : Pos} {CX : CXT} {k : Nat} {fd : FuncData} {ps : List Str} {sp : Sp}
theorem pe_oexV (T : OexC X.K C) (ini : PySem.W.findIn X.K (.ref C) "__init__" = some (some (.ref fI))) (tyI : PySem.W.typeIn X.K (.ref fI) = some (.type "function")) (FI : FnOk X.prog X.w X.K X.mg X.base CX k fI fd ps sp) (room : Room (k + 1) X.A)
    (bd : Binds X.K fd ps []) (pass : Passes CX X (fun _ _ _ => False)) (gx : Gl X x) (mx : X.mg x = some (.ref C)) (args : PA X (e :: es) ta) (ndb : (x == ("__debug__" : Str)) = false := by decide)
    (h1 : starEach (e :: es) X.env = (false, eval e X.env) :: starEach es X.env := by rfl) (h2 : (backTo q3 (starEach es X.env)).any (·.1) = false := by rfl) :
    PE X (.Call (.Name x q1) (e :: es) [] q3) (tMkV C sp ta) := by
  refine ⟨fun pins s σ H Q I want => ?_⟩
  obtain ⟨nm, qn, N, bs, bm, sn, sub, ab, col, dd, k0, k1, k2, k3, k5, hC, hbm⟩ := T.cls
  refine wpAny_Call_Name_kw (ld_glob I gx mx ?_ ndb)
  refine PySem.W.callWith_K (h₀ := X.base) I.ok.mod.kin T.kC (thn (args.run q3 pins s σ H _ I want) fun us t ⟨vs, H1, J, rel, few, made⟩ => ⟨J.kIn, ?_⟩) h1 h2
  show wpAny _ _ (call (.ref C) us) _ _ _
  obtain ⟨hp, g, dr, tk, os⟩ := t
  have up1 : hp.objs.size ≤ hp.objs.size + 1 := Nat.le_succ _
  have new := made (hp.objs.size + 1) (J.hok.fresh up1)
  have here : ((hp.push (PySem.W.kdv_tup us)).push (PySem.HandSPX.excO C hp.objs.size)).get? (hp.objs.size + 1) = some (PySem.HandSPX.excO C hp.objs.size) := by heap_get
  have J2 : Inv X pins σ (upd H1 (hp.objs.size + 1) (exo (hp.objs.size + 1) C none)) ⟨(hp.push (PySem.W.kdv_tup us)).push (PySem.HandSPX.excO C hp.objs.size), g, dr, tk, os⟩ :=
    J.laid (t' := tk) (fun b o w => Heap.get?_push_of_some _ (Heap.get?_push_of_some _ w)) up1 (exo_ok here)
  have rel2 : Vals (V.ref (hp.objs.size + 1) :: vs) (Value.ref (hp.objs.size + 1) :: us) := .cons rfl rel
  have many : (Value.ref (hp.objs.size + 1) :: us).length = ps.length := by
    rw [← rel2.length]; exact FI.len _ _ _ _ new
  have fit : us.length ≤ sizeLine := by rw [← Paired.length rel, sizeLine_eq]; omega
  refine wpAny_call (PySem.HandSPX.call_own F.excBase_ValueError (fun Y => PySem.HandSPX.refsVE_contains Y bm hbm) (J.kIn _ _ hC) (PySem.W.looks_findIn J.kIn ini) (fun self => PySem.W.bind_fn J.kIn self tyI) fit
    (codeAny_mono (FI.run _ X.stack _ _ ⟨Value.ref (hp.objs.size + 1) :: us, []⟩ (Value.ref (hp.objs.size + 1) :: us) _ _ (fun _ _ _ => False) (room.make C us []) (J2.env0.make C us []) (by simpa using bd _ (Value.ref (hp.objs.size + 1) :: us) J2.kIn (by simpa using many)) rel2 new) fun r t' got => ?_))
  cases r with
  | error er => exact pass pins σ _ _ er t' J2 got
  | ok fl =>
    cases fl with
    | ret u =>
      obtain ⟨v, H2, e1, e2, un2, ok2, rv, ev, q⟩ := got
      subst ev
      exact ⟨rv, .ref (hp.objs.size + 1), H2, J2.call' (ch := []) e1 un2 ok2 e2 (fun b z => absurd z (by simp)), rfl, q⟩
    | next => exact False.elim got
    | brk => exact False.elim got
    | cont => exact False.elim got
end
end My

namespace My
open PySem PySem.Spec PyProof.Rows L2
/-! ### isinstance and fields of an exception that is known -/
def IsX (H : Hp) (a C : Addr) (d : Option Addr) : Prop := H a = some (exo a C d) ∨ H a = some (ExK (.ref C) d a) ∨ (d = none ∧ H a = some (ExO (.ref C) a))
def HasF (H : Hp) (dd : Addr) (fs : List (Str × V)) : Prop := H dd = some (exd dd fs) ∨ H dd = some (.xd fs)
structure ExI (K : PySem.W.Frag) (D : Addr) : Prop where
  cl : (PySem.W.clsIn K D).isSome = true
  hg : PySem.W.findIn K (.ref D) "__getattribute__" = some (some (.builtin "BaseException.__getattribute__"))
  hk : PySem.W.findIn K (.ref D) "__getattr__" = some none
  hs : PySem.W.subIn K (.ref D) (.type "BaseException") = some true
  ha : PySem.W.findIn K (.ref D) "__class__" = some (some (.builtin "object.__class__"))
  hn : PySem.W.specialIn K (.builtin "object.__class__") "__get__" = some (some (.builtin "getset_descriptor.__get__"))
  ht : PySem.W.takesIn K (.builtin "object.__class__") = some true
  hm : PySem.W.mroIn K D (.type "object") = some true
section
variable {X : Cx} {pins : List (Addr × Obj)} {σ : L2.St} {H : Hp} {s : Shared}
theorem isx_at {a C : Addr} {d : Option Addr} (I : Inv X pins σ H s) (h : IsX H a C d) : ∃ ob fl, s.heap.get? a = some ob ∧ Zc (.ref C) d ob ∧ ob.data = .fields fl := by
  rcases h with h | h | ⟨rfl, h⟩
  · obtain ⟨t, e⟩ := exo_at I.hok h
    exact ⟨_, _, e, ⟨rfl, rfl⟩, rfl⟩
  · obtain ⟨⟨ob, fl, e, z, q⟩, _⟩ := I.hok a _ h
    exact ⟨ob, fl, e, z, q⟩
  · obtain ⟨⟨ob, fl, e, z, q, _⟩, _⟩ := I.hok a _ h
    exact ⟨ob, fl, e, z, q⟩
theorem hasf_at {dd : Addr} {fs : List (Str × V)} (I : Inv X pins σ H s) (h : HasF H dd fs) : ∃ mA, s.heap.Ns1 dd mA ∧ ∀ f, RelO (fs.lookup f) (mA f) := by
  rcases h with h | h
  · exact exd_at I.hok h
  · exact I.hok dd _ h
theorem inst_at {a C : Addr} {d : Option Addr} (I : Inv X pins σ H s) (h : IsX H a C d) (hd : ∀ dd, d = some dd → ∃ fs, HasF H dd fs) : ∃ ob od, PySem.W.InstAt s.heap a ob C od := by
  obtain ⟨ob, fl, e, ⟨z1, z2⟩, q⟩ := isx_at I h
  have nc : PySem.W.notCls ob = true := by unfold PySem.W.notCls; rw [q] <;> rfl
  cases d with
  | none => exact ⟨ob, none, e, z1, nc, by rw [z2]; trivial⟩
  | some dd =>
    obtain ⟨fs, hf⟩ := hd dd rfl
    obtain ⟨mA, hns, _⟩ := hasf_at I hf
    obtain ⟨od, ho, _⟩ := lookIn_ns hns
    exact ⟨ob, some od, e, z1, nc, by rw [z2]; exact ho⟩
def rIsK (K : PySem.W.Frag) : List V → Hp → VK → Prop := fun xs H Q => ∃ (a D : Addr) (d : Option Addr) (c : V) (cv : Value) (b : Bool), xs = [.ref a, c] ∧ ExI K D ∧ IsX H a D d ∧ (∀ dd, d = some dd → ∃ fs, HasF H dd fs) ∧ (∀ u, RelV c u → u = cv) ∧ PySem.W.kitOne K (.ref D) cv = some b ∧ Q (.bl b) H
theorem call_isK : CallR X (.builtin "isinstance") (rIsK X.K) := by
  intro pins s σ H xs us Q I r h
  obtain ⟨a, D, d, c, cv, b, rfl, T, hx, hd, hcv, e, q⟩ := h
  cases r with
  | cons r1 rr =>
    cases rr with
    | cons r2 rr =>
      cases rr
      cases r1
      obtain rfl := hcv _ r2
      obtain ⟨ob, od, J⟩ := inst_at I hx hd
      exact PySem.W.kia_one (PySem.W.kitx_exc T.cl T.hg T.hk T.hs T.ha T.hn T.ht T.hm) I.kIn J e (fun z => nomatch z) fun tk => ⟨.bl b, H, I.kept (t' := tk) fun _ _ z => z, rfl, q⟩
/-- e.f, e an exception with a dict -/
def tXk (K : PySem.W.Frag) (f : Str) (te : TE) : TE := fun σ H Q => te σ H fun x H1 => ∃ (a C dd : Addr) (fs : List (Str × V)) (v : V), x = .ref a ∧ XfC K C ∧ PySem.W.findIn K (.ref C) f = some none ∧ IsX H1 a C (some dd) ∧ HasF H1 dd fs ∧ fs.lookup f = some v ∧ Q v H1
theorem pe_xk {e : Expr} {te : TE} {pos : Pos} {n : Str} (he : PE X e te) (hb : attributeBase e n X.env (eval e X.env) = eval e X.env := by rfl) : PE X (.Attribute e n pos) (tXk X.K n te) := by
  refine ⟨fun pins s σ H Q I h => ?_⟩
  refine attr_of hb (thn (he.run pins s σ H _ I h) fun u t hh => ?_)
  obtain ⟨x, H1, J, rx, a, C, dd, fs, v, ex, T, hno, hx, hf, l, q⟩ := hh
  subst ex
  obtain rfl : u = Value.ref a := rx
  obtain ⟨ob, fl, e1, ⟨z1, z2⟩, q1⟩ := isx_at J hx
  obtain ⟨mA, hns, rel⟩ := hasf_at J hf
  obtain ⟨od, ho, hl⟩ := lookIn_ns hns
  obtain ⟨u, hu, ru⟩ := RelO.some_of (v := v) (o := mA n) (by rw [← l]; exact rel n)
  have at_a : PySem.W.InstAt t.heap a ob C (some od) := ⟨e1, z1, by unfold PySem.W.notCls; rw [q1] <;> rfl, by rw [z2]; exact ho⟩
  exact HandSPX.exc_get J.kIn at_a T.ga T.gg T.exC (PySem.W.findObj_own T.hdC hno rfl (by rw [hl, hu])) (handed_of ru) ⟨v, H1, J.tok _, ru, q⟩
end
end My

namespace My
open PySem PySem.Spec PyProof.Rows L2
def inS (i : Nat) : Stmt := match topS i with
  | .ClassDef _ _ _ b _ _ _ _ _ _ _ => b.getD 0 (.Pass ⟨0, 0, 0, 0⟩)
  | _ => .Pass ⟨0, 0, 0, 0⟩
def oexB (K : PySem.W.Frag) (C : Addr) : Bool := match K.lookup C with
  | some ⟨.type "type", _, .cls cd, sl⟩ => (match cd.mro with
    | .ref C' :: bm => (match sl.toList with
      | [_, _, _, _, some (.builtin n), _] => (C' == C) && ((n == "ValueError.__new__") && ((!cd.hasDel) && (cd.hasDict && PySem.HandSPX.refsVE bm)))
      | _ => false)
    | _ => false)
  | _ => false
theorem oexB_ok {K : PySem.W.Frag} {C : Addr} (q : oexB K C = true) : ∃ nm qn N bs bm sn sub ab col dd k0 k1 k2 k3 k5, K.lookup C = some (excClassObj nm qn C N bs bm true sn sub ab col dd k0 k1 k2 k3 k5 "ValueError.__new__") ∧ PySem.HandSPX.refsVE bm = true := by
  unfold oexB at q
  split at q
  · rename_i dd cd sl hl
    split at q
    · rename_i C' bm hm
      split at q
      · rename_i k0 k1 k2 k3 n k5 hs
        simp only [Bool.and_eq_true, beq_iff_eq, Bool.not_eq_true'] at q
        obtain ⟨e1, e2, e3, e4, e5⟩ := q
        subst e1 e2
        obtain ⟨nm, bs, mro, ns, qn, hd, sn, sub, ab, col, dl⟩ := cd
        dsimp only at hm e3 e4
        subst hm e3 e4
        have hsl : sl = #[k0, k1, k2, k3, some (.builtin "ValueError.__new__"), k5] := by
          obtain ⟨l⟩ := sl
          simp only at hs
          rw [hs]
        subst hsl
        exact ⟨nm, qn, ns, bs, bm, sn, sub, ab, col, dd, k0, k1, k2, k3, k5, hl, e5⟩
      · cases q
    · cases q
  · cases q
def iniB (K : PySem.W.Frag) (C : Addr) (f : Str) : Bool := oexB K C && (decide (PySem.W.findIn K (.ref C) "__setattr__" = some (some (.builtin "object.__setattr__"))) && (decide (PySem.W.subIn K (.ref C) (.type "BaseException") = some true) && (decide (PySem.W.typeIn K (.ref C) = some (.type "type")) && (PySem.W.keepIn K (.ref C) && decide (PySem.W.findIn K (.ref C) f = some none)))))
theorem iniB_ok {K : PySem.W.Frag} {C : Addr} {f : Str} (h : iniB K C f = true) : OexC K C ∧ PySem.W.findIn K (.ref C) f = some none := by
  unfold iniB at h
  simp only [Bool.and_eq_true, decide_eq_true_eq] at h
  obtain ⟨h1, h2, h3, h4, h5, h6⟩ := h
  exact ⟨⟨oexB_ok h1, h2, h3, h4, h5⟩, h6⟩
def exiB (K : PySem.W.Frag) (D : Addr) : Bool := (PySem.W.clsIn K D).isSome && (decide (PySem.W.findIn K (.ref D) "__getattribute__" = some (some (.builtin "BaseException.__getattribute__"))) && (decide (PySem.W.findIn K (.ref D) "__getattr__" = some none) && (decide (PySem.W.subIn K (.ref D) (.type "BaseException") = some true) &&
  (decide (PySem.W.findIn K (.ref D) "__class__" = some (some (.builtin "object.__class__"))) && (decide (PySem.W.specialIn K (.builtin "object.__class__") "__get__" = some (some (.builtin "getset_descriptor.__get__"))) && (decide (PySem.W.takesIn K (.builtin "object.__class__") = some true) && decide (PySem.W.mroIn K D (.type "object") = some true)))))))
theorem exiB_ok {K : PySem.W.Frag} {D : Addr} (h : exiB K D = true) : ExI K D := by
  unfold exiB at h
  simp only [Bool.and_eq_true, decide_eq_true_eq] at h
  obtain ⟨h1, h2, h3, h4, h5, h6, h7, h8⟩ := h
  exact ⟨h1, h2, h3, h4, h5, h6, h7, h8⟩
def Few (y : V) : Prop := (∃ i : Int, y = .int i ∧ i.natAbs.log2 < 1920) ∨ ∃ x : Str, y = .str x ∧ x.length ≤ 100
def spIni (K : PySem.W.Frag) (C : Addr) (f : Str) : Sp := fun vs H Q _ => ∃ (a : Addr) (y : V), vs = [.ref a, y] ∧ OexC K C ∧ PySem.W.findIn K (.ref C) f = some none ∧ H a = some (exo a C none) ∧ Few y ∧ ∀ dx, H dx = none → dx ≠ a → Q .non (upd (upd H dx (exd dx [(f, y)])) a (exo a C (some dx)))
theorem few_txt {i : Int} (h : i.natAbs.log2 < 1920) : (Str.ofString (toString i)).length ≤ 1921 := int_text_len_1921 h
def HasD (H : Hp) (d : Option Addr) : Prop := ∀ dd, d = some dd → ∃ fs, HasF H dd fs
theorem IsX.same {H H' : Hp} {a C : Addr} {d : Option Addr} (h : IsX H a C d) (e : Same H H') : IsX H' a C d := by
  rcases h with h | h | ⟨q, h⟩
  · exact .inl (e _ _ h)
  · exact .inr (.inl (e _ _ h))
  · exact .inr (.inr ⟨q, e _ _ h⟩)
theorem HasD.same {H H' : Hp} {d : Option Addr} (h : HasD H d) (e : Same H H') : HasD H' d := fun dd q => by
  obtain ⟨fs, f⟩ := h dd q
  rcases f with f | f
  · exact ⟨fs, .inl (e _ _ f)⟩
  · exact ⟨fs, .inr (e _ _ f)⟩
/-- a class with its own __init__ -/
structure Ini (K : PySem.W.Frag) (C fI : Addr) (f : Str) : Prop where
  ox : OexC K C
  no : PySem.W.findIn K (.ref C) f = some none
  ini : PySem.W.findIn K (.ref C) "__init__" = some (some (.ref fI))
  ty : PySem.W.typeIn K (.ref fI) = some (.type "function")
  xf : XfC K C
section
variable {X : Cx} {e : Expr} {es : List Expr} {t : TA} {te : TE} {pos : Pos}
theorem peMono (h : PE X e te) : PE X e (fun σ H R => ∃ S : V → Hp → Prop, te σ H S ∧ ∀ v H1, S v H1 → R v H1) :=
  ⟨fun pins s σ H Q I ⟨S, h1, h2⟩ => thn (h.run pins s σ H S I h1) fun us s1 ⟨v, H1, I1, r, q⟩ => ⟨v, H1, I1, r, h2 _ _ q⟩⟩
def tOexS (C : Addr) (f : Str) (ta : TA) : TE := fun σ H Q => ta σ H fun vs H1 => ∃ y, vs = [y] ∧ Few y ∧ ∀ a dx H2, Same H1 H2 → IsX H2 a C (some dx) → HasF H2 dx [(f, y)] → Q (.ref a) H2
theorem pe_oexS {x : Str} {C fI : Addr} {q1 q3 : Pos} {fd : FuncData} {ps : List Str} {f : Str} (I : Ini X.K C fI f) (FI : FnOk X.prog X.w X.K X.mg X.base CX0 1 fI fd ps (spIni X.K C f)) (room : Room (1 + 1) X.A)
    (bd : Binds X.K fd ps []) (gx : Gl X x) (mx : X.mg x = some (.ref C)) (args : PA X (e :: es) t) (ndb : (x == ("__debug__" : Str)) = false := by decide)
    (h1 : starEach (e :: es) X.env = (false, eval e X.env) :: starEach es X.env := by rfl) (h2 : (backTo q3 (starEach es X.env)).any (·.1) = false := by rfl) : PE X (.Call (.Name x q1) (e :: es) [] q3) (tOexS C f t) :=
  PE.imp (pe_oexV I.ox I.ini I.ty FI room bd pass0 gx mx (paMono args) ndb h1 h2) fun _ _ _ q => ⟨_, q, fun vs H1 ⟨y, ev, few, k⟩ => by
    subst ev
    refine ⟨by show 1 ≤ 1000; decide, fun a na => ⟨a, y, rfl, I.ox, I.no, upd_same, few, fun dx ndx dxa => ⟨rfl, ?_⟩⟩⟩
    have nd : H1 dx = none := by rw [upd_ne dxa] at ndx; exact ndx
    refine k a dx _ (fun b o hb => ?_) (.inl upd_same) (.inl (by rw [upd_ne dxa]; exact upd_same))
    rw [upd_ne (ne_of_none hb na), upd_ne (ne_of_none hb nd), upd_ne (ne_of_none hb na)]
    exact hb⟩
def tExcS (C : Addr) (te : TE) : TE := fun σ H Q => te σ H fun _ H1 => ∀ a H2, Same H1 H2 → IsX H2 a C none → Q (.ref a) H2
theorem pe_excS {C : Addr} {x : Str} {p : Pos} (q : PySem.W.excIn X.K C [.type "ValueError", .type "Exception", .type "BaseException", .type "object"] "ValueError.__new__" = true) (gC : X.mg x = some (.ref C)) (kC : PySem.W.keepIn X.K (.ref C) = true) (hg : Gl X x)
    (he : PE X e te) (hs : starEach [e] X.env = (false, eval e X.env) :: starEach [] X.env := by rfl) (hdb : (x == ("__debug__" : Str)) = false := by decide) : PE X (.Call (.Name x p) [e] [] pos) (tExcS C te) :=
  PE.imp (pe_exc1 PySem.F.excBase_ValueError q gC kC hg (peMono he) hs hdb) fun _ _ _ q => ⟨_, q, fun _ H1 k a na => k a _ (Same.upd na) (.inr (.inr ⟨rfl, upd_same⟩))⟩
end
theorem hasD_none {H : Hp} : HasD H none := fun _ z => nomatch z
theorem hasD_some {H : Hp} {dx : Addr} {fs : List (Str × V)} (h : HasF H dx fs) : HasD H (some dx) := fun dd z => by cases z; exact ⟨fs, h⟩
theorem HasF.same {H H' : Hp} {dx : Addr} {fs : List (Str × V)} (h : HasF H dx fs) (e : Same H H') : HasF H' dx fs := by
  rcases h with h | h
  · exact .inl (e _ _ h)
  · exact .inr (e _ _ h)
/-- all but lists stay -/
def SameX (H H' : Hp) : Prop := ∀ b o, H b = some o → (∀ xs, o ≠ .lst xs) → H' b = some o
theorem SameX.lst {H : Hp} {l : Addr} {xs ys : List V} (h : H l = some (.lst xs)) : SameX H (upd H l (.lst ys)) := fun b o hb n => by
  rw [upd_ne (fun z => by rw [z, h] at hb; cases hb; exact n _ rfl)]; exact hb
theorem IsX.sx {H H' : Hp} {a C : Addr} {d : Option Addr} (h : IsX H a C d) (e : SameX H H') : IsX H' a C d := by
  rcases h with h | h | ⟨q, h⟩
  · exact .inl (e _ _ h fun _ z => nomatch (show HO.ext _ = HO.lst _ from z))
  · exact .inr (.inl (e _ _ h fun _ z => nomatch (show HO.ext _ = HO.lst _ from z)))
  · exact .inr (.inr ⟨q, e _ _ h fun _ z => nomatch (show HO.ext _ = HO.lst _ from z)⟩)
theorem HasF.sx {H H' : Hp} {dx : Addr} {fs : List (Str × V)} (h : HasF H dx fs) (e : SameX H H') : HasF H' dx fs := by
  rcases h with h | h
  · exact .inl (e _ _ h fun _ z => nomatch (show HO.ext _ = HO.lst _ from z))
  · exact .inr (e _ _ h fun _ z => nomatch z)
end My

set_option linter.all false
namespace My
open PySem PySem.Spec PyProof.Rows L2
/-! ### dicts with keys of any kind: entries known one by one -/
/-- an entry that holds a key -/
def EnK (w : World) (h : Heap) (k : NestedKey) (e : DictEntry) : Prop := NestedIs h k e.key ∧ e.hash = k.hash w ∧ k.depth ≤ 8
structure Ks (w : World) (h : Heap) (ks : List NestedKey) (es : Array DictEntry) : Prop where
  len : ks.length = es.size
  at' : ∀ (i : Nat) (e : DictEntry), es[i]? = some e → ∃ x, ks[i]? = some x ∧ EnK w h x e
  nod : ks.Nodup
theorem Ks.to {w : World} {h : Heap} {ks : List NestedKey} {es : Array DictEntry} (S : Ks w h ks es) {j : Nat} {k : NestedKey} (e : ks[j]? = some k) : ∃ en, es[j]? = some en ∧ EnK w h k en := by
  have hj : j < es.size := by rw [← S.len]; exact (List.getElem?_eq_some_iff.mp e).1
  obtain ⟨x, h1, h2⟩ := S.at' j es[j] (Array.getElem?_eq_getElem hj)
  rw [e] at h1
  cases h1
  exact ⟨_, Array.getElem?_eq_getElem hj, h2⟩
theorem Ks.one {w : World} {h : Heap} {ks : List NestedKey} {es : Array DictEntry} (S : Ks w h ks es) {i j : Nat} {k : NestedKey} (e : ks[i]? = some k) (f : ks[j]? = some k) : i = j :=
  (List.getElem?_inj (List.getElem?_eq_some_iff.mp e).1 S.nod).mp (e.trans f.symm)
theorem is_text {h : Heap} {k : NestedKey} {x : Str} {t : Tok} (r : NestedIs h k (.str x t)) : k = .text x := by cases r; rfl
section
variable {prog : Program} {w : World} {A : Around} {E : Value → Shared → Prop} {s : Shared}
def plc (es : Array DictEntry) (h : Int) : List Nat := placesWithHash es.size (fun i => es[i]?.map (·.hash)) h
theorem plc_mem {es : Array DictEntry} {h : Int} {i : Nat} : i ∈ plc es h ↔ ∃ e, es[i]? = some e ∧ e.hash = h := by
  unfold plc placesWithHash
  rw [List.mem_filter, List.mem_range]
  show _ ∧ (Option.map (fun (e : DictEntry) => e.hash) es[i]? == some h) = true ↔ _
  constructor
  · rintro ⟨h1, h2⟩
    refine ⟨es[i], Array.getElem?_eq_getElem h1, ?_⟩
    rw [Array.getElem?_eq_getElem h1] at h2
    simpa using h2
  · rintro ⟨e, h1, h2⟩
    refine ⟨(Array.getElem?_eq_some_iff.mp h1).1, ?_⟩
    rw [h1]; simp [h2]
theorem plc_nod (es : Array DictEntry) (h : Int) : (plc es h).Nodup := List.Pairwise.filter _ List.nodup_range
theorem mayTell_any {k : NestedKey} {u : Value} {l : List Value} {R : Bool → Shared → Prop} (hk : NestedIs s.heap k u) (h8 : k.depth ≤ 8) (hs : ∀ v ∈ l, ∃ x : NestedKey, NestedIs s.heap x v ∧ x.depth ≤ 8) (r : R false s) : wpAny (model prog w) A (tableMayTell u l) R E s := by
  have q8 : ∀ {x : NestedKey} {v : Value} {T : Bool → Shared → Prop}, NestedIs s.heap x v → x.depth ≤ 8 → T true s → wpAny (model prog w) A (eqIsQuiet 8 v) T E s := fun {x v T} a b c => quiet_key x v 8 s a b A E T c
  unfold tableMayTell
  split
  · exact wpAny_pure r
  · refine wpAny_bind (q8 hk h8 ?_)
    rw [if_neg (by simp)]
    refine wpAny_bind (wpAny_forIn_list _ (fun rest b s' => s' = s ∧ b = (none, ()) ∧ ∀ v ∈ rest, ∃ x : NestedKey, NestedIs s.heap x v ∧ x.depth ≤ 8) _ ?_ ?_ _ _ ⟨rfl, rfl, hs⟩)
    · rintro v rest b s' ⟨rfl, rfl, hv⟩
      obtain ⟨x, h1, h2⟩ := hv v List.mem_cons_self
      refine wpAny_bind (q8 h1 h2 ?_)
      rw [if_neg (by simp)]
      exact wpAny_pure ⟨rfl, rfl, fun z hz => hv z (List.mem_cons_of_mem _ hz)⟩
    · rintro b s' ⟨rfl, rfl, _⟩
      exact wpAny_pure r
theorem dictFind_any {d : Addr} {o : Obj} {es : Array DictEntry} {ep : Nat} {ks : List NestedKey} {k : NestedKey} {u : Value} {Q : Option Nat → Shared → Prop} (hu : A.units + 8 < cLine) (hk : NestedIs s.heap k u) (h8 : k.depth ≤ 8)
    (ho : s.heap.get? d = some o) (hd : o.data = .dict es ep) (S : Ks w s.heap ks es) (q0 : k ∉ ks → Q none s) (q1 : ∀ j, ks[j]? = some k → Q (some j) s) :
    wpAny (model prog w) A (dictFind d u (k.hash w)) Q E s := by
  have eqs : ∀ {x : NestedKey} {e : DictEntry} {R : Bool → Shared → Prop}, EnK w s.heap x e → R (decide (x = k)) s → wpAny (model prog w) A (eqBool e.key u) R E s := fun {x e R} hx r =>
    eqAt_key x k A s _ _ hx.1 hk (by have := hx.2.2; omega) _ _ _ _ (by rw [← NestedKey.decide_eq]; exact r)
  unfold dictFind
  try with_reducible refine wpAny_holding ?_
  refine wpAny_bind (wpAny_dictEntries ho hd ?_)
  dsimp only
  -- the walk over places
  have walkP : wpAny (model prog w) A (dictWalkPlain d u (k.hash w) es (plc es (k.hash w))) Q E s := by
    unfold dictWalkPlain
    refine wpAny_bind ?_
    refine wpAny_forIn_list _ (fun rest b s' => s' = s ∧ b = (none, ()) ∧ (∀ i ∈ rest, i ∈ plc es (k.hash w)) ∧ ∀ j, ks[j]? = some k → j ∈ rest) _ ?_ ?_ _ _ ⟨rfl, rfl, fun _ h => h, fun j hj => ?_⟩
    · rintro x rest b s' ⟨rfl, rfl, hin, hall⟩
      obtain ⟨e, he, hh⟩ := plc_mem.mp (hin x List.mem_cons_self)
      obtain ⟨y, hy, ey⟩ := S.at' x e he
      have hin' : ∀ i ∈ rest, i ∈ plc es (k.hash w) := fun i hi => hin i (List.mem_cons_of_mem _ hi)
      rw [he]
      dsimp only
      rw [if_pos (by rw [hh]; exact beq_self_eq_true _)]
      refine wpAny_bind (wpAny_dictEpoch ho hd (wpAny_bind (eqs ey (wpAny_bind (wpAny_dictEpoch ho hd ?_)))))
      rw [if_neg (by simp)]
      by_cases c : y = k
      · rw [decide_eq_true c]
        rw [c] at hy
        exact wpAny_bind (wpAny_rule (wpAny_pure (wpAny_pure (q1 x hy))))
      · rw [decide_eq_false c]
        refine wpAny_bind (wpAny_rule (wpAny_pure ⟨rfl, rfl, hin', fun j hj => ?_⟩))
        rcases List.mem_cons.mp (hall j hj) with z | z
        · rw [z, hy] at hj
          exact absurd (Option.some.inj hj) c
        · exact z
    · rintro b s' ⟨rfl, rfl, _, hall⟩
      refine wpAny_pure (q0 fun hm => ?_)
      obtain ⟨j, hj⟩ := List.mem_iff_getElem?.mp hm
      exact nomatch hall j hj
    · obtain ⟨en, h1, h2⟩ := S.to hj
      exact plc_mem.mpr ⟨en, h1, h2.2.1⟩
  have sub : ∀ v ∈ (plc es (k.hash w)).filterMap (fun i => es[i]?.map (·.key)), ∃ x, NestedIs s.heap x v ∧ x.depth ≤ 8 := fun v hv => by
    obtain ⟨i, _, hi⟩ := List.mem_filterMap.mp hv
    cases he : es[i]? with
    | none => rw [he] at hi; cases hi
    | some e =>
      rw [he] at hi
      cases hi
      obtain ⟨y, _, ey⟩ := S.at' i e he
      exact ⟨y, ey.1, ey.2.2⟩
  have notold : ∀ a, u = .ref a → ¬ (es.any fun e => e.key == Value.ref a && e.hash != k.hash w) = true := by
    intro a ea c
    rw [← Array.any_toList] at c
    obtain ⟨e, he, hc⟩ := List.any_eq_true.mp c
    obtain ⟨i, hi⟩ := List.mem_iff_getElem?.mp he
    obtain ⟨y, _, ey⟩ := S.at' i e (by rw [← hi, Array.getElem?_toList])
    simp only [Bool.and_eq_true, beq_iff_eq, bne_iff_ne, ne_eq] at hc
    have r := ey.1
    rw [hc.1, ← ea] at r
    rw [NestedIs.inj _ _ _ r hk] at ey
    exact hc.2 ey.2.1
  have inv0 : s = s ∧ (plc es (k.hash w)).Nodup ∧ (∀ i ∈ plc es (k.hash w), i ∈ plc es (k.hash w)) ∧ ∃ hit : Option Nat, ((none : Option (Option Nat)), (none : Option Nat)) = (none, hit) ∧ ((hit = none ∧ ∀ j, ks[j]? = some k → j ∈ plc es (k.hash w)) ∨ ∃ j, hit = some j ∧ ks[j]? = some k ∧ j ∉ plc es (k.hash w)) := by
    refine ⟨rfl, plc_nod _ _, fun _ h => h, none, rfl, .inl ⟨rfl, fun j hj => ?_⟩⟩
    obtain ⟨en, h1, h2⟩ := S.to hj
    exact plc_mem.mpr ⟨en, h1, h2.2.1⟩
  have text : ∀ (x : Str) (t : Tok), u = .str x t → wpAny (model prog w) A (foundByValue d u es x) Q E s := by
    intro x t eu
    have kx : k = .text x := is_text (by rw [← eu]; exact hk)
    unfold foundByValue
    have key : ∀ (i : Nat) (e : DictEntry), es[i]? = some e → (e.key.isStr x = true ↔ ks[i]? = some k) := by
      intro i e he
      obtain ⟨y, hy, ey⟩ := S.at' i e he
      constructor
      · intro c
        have r := ey.1
        cases hz : e.key with
        | str z t2 =>
          rw [hz] at r c
          have zx : z = x := by simpa [Value.isStr] using c
          rw [hy, is_text r, kx, zx]
        | _ => rw [hz] at c; simp [Value.isStr] at c
      · intro c
        rw [hy] at c
        cases c
        have r := ey.1
        rw [kx] at r
        cases hz : e.key with
        | str z t2 => rw [hz] at r; cases r; simp [Value.isStr]
        | _ => rw [hz] at r; cases r
    cases hf : es.findIdx? (fun e => e.key.isStr x) with
    | none =>
      refine wpAny_pure (q0 fun hm => ?_)
      obtain ⟨j, hj⟩ := List.mem_iff_getElem?.mp hm
      obtain ⟨en, h1, _⟩ := S.to hj
      have := Array.findIdx?_eq_none_iff.mp hf en (Array.mem_of_getElem? h1)
      rw [(key j en h1).mpr hj] at this
      cases this
    | some i =>
      obtain ⟨hi, h1, _⟩ := Array.findIdx?_eq_some_iff_getElem.mp hf
      have he : es[i]? = some es[i] := Array.getElem?_eq_getElem hi
      have hj := (key i _ he).mp h1
      obtain ⟨y, hy, ey⟩ := S.at' i _ he
      dsimp only
      rw [he]
      refine wpAny_bind (wpAny_dictEpoch ho hd (wpAny_bind (eqs ey (wpAny_bind (wpAny_dictEpoch ho hd ?_)))))
      rw [if_neg (by simp)]
      rw [hj] at hy
      rw [decide_eq_true (Option.some.inj hy).symm]
      exact wpAny_bind (wpAny_rule (wpAny_pure (q1 i hj)))
  have loop : ∀ (W : Nat → Option (Option Nat) × Option Nat → Sem (ForInStep (Option (Option Nat) × Option Nat))),
      (∀ x e y hit, es[x]? = some e → ks[x]? = some y → EnK w s.heap y e → e.hash = k.hash w → (y = k → hit = none) →
        ∀ R : ForInStep (Option (Option Nat) × Option Nat) → Shared → Prop, (y = k → ks[x]? = some k → Q (some x) s → R (.done (some (some x), hit)) s) → (y = k → R (.yield (none, some x)) s) → (y ≠ k → R (.yield (none, hit)) s) → wpAny (model prog w) A (W x (none, hit)) R E s) →
      wpAny (model prog w) A (forIn (plc es (k.hash w)) ((none : Option (Option Nat)), (none : Option Nat)) W) (fun b s' => s' = s ∧ ((∃ r, b = (some r, none) ∧ Q r s) ∨ ∃ r, b = (none, r) ∧ Q r s)) E s := by
    intro W hW
    refine wpAny_forIn_list _ (fun rest b s' => s' = s ∧ ((∃ j, b = (some (some j), none) ∧ Q (some j) s ∧ rest = []) ∨ (rest.Nodup ∧ (∀ i ∈ rest, i ∈ plc es (k.hash w)) ∧ ∃ hit : Option Nat, b = (none, hit) ∧ ((hit = none ∧ ∀ j, ks[j]? = some k → j ∈ rest) ∨ ∃ j, hit = some j ∧ ks[j]? = some k ∧ j ∉ rest)))) _ ?_ ?_ _ _ ⟨rfl, .inr inv0.2⟩
    · rintro x rest b s' ⟨rfl, ⟨j, _, _, z⟩ | ⟨hn, hin, hit, rfl, hH⟩⟩
      · cases z
      · obtain ⟨e, he, hh⟩ := plc_mem.mp (hin x List.mem_cons_self)
        obtain ⟨y, hy, ey⟩ := S.at' x e he
        obtain ⟨hnx, hn'⟩ := List.nodup_cons.mp hn
        have hin' : ∀ i ∈ rest, i ∈ plc es (k.hash w) := fun i hi => hin i (List.mem_cons_of_mem _ hi)
        have hnone : y = k → hit = none := fun c => by
          rcases hH with ⟨z, _⟩ | ⟨j, _, hj, nj⟩
          · exact z
          · rw [c] at hy
            exact absurd (by rw [S.one hj hy]; exact List.mem_cons_self) nj
        refine hW x e y hit he hy ey hh hnone _ (fun c hx q => ?_) (fun c => ?_) fun c => ?_
        · exact ⟨rfl, .inl ⟨_, by rw [hnone c], q⟩⟩
        · rw [c] at hy
          exact ⟨rfl, .inr ⟨hn', hin', some x, rfl, .inr ⟨x, rfl, hy, hnx⟩⟩⟩
        · refine ⟨rfl, .inr ⟨hn', hin', hit, rfl, ?_⟩⟩
          rcases hH with ⟨z, hall⟩ | ⟨j, z, hj, nj⟩
          · refine .inl ⟨z, fun j hj => ?_⟩
            rcases List.mem_cons.mp (hall j hj) with z | z
            · rw [z, hy] at hj
              exact absurd (Option.some.inj hj) c
            · exact z
          · exact .inr ⟨j, z, hj, fun h => nj (List.mem_cons_of_mem _ h)⟩
    · rintro b s' ⟨rfl, ⟨j, rfl, q, _⟩ | ⟨_, _, hit, rfl, hH⟩⟩
      · exact ⟨rfl, .inl ⟨_, rfl, q⟩⟩
      · refine ⟨rfl, .inr ⟨_, rfl, ?_⟩⟩
        rcases hH with ⟨rfl, hall⟩ | ⟨j, rfl, hj, _⟩
        · refine q0 fun hm => ?_
          obtain ⟨j, hj⟩ := List.mem_iff_getElem?.mp hm
          exact nomatch hall j hj
        · exact q1 j hj
  have tells : ∀ R : Bool → Shared → Prop, R false s → wpAny (model prog w) A (tableMayTell u ((plc es (k.hash w)).filterMap fun i => es[i]?.map (·.key))) R E s := fun R r => mayTell_any hk h8 sub r
  have body : ∀ (x : Nat) (e : DictEntry) (y : NestedKey) (hit : Option Nat) (R : ForInStep (Option (Option Nat) × Option Nat) → Shared → Prop), ks[x]? = some y → (y = k → hit = none) → (y = k → ks[x]? = some k → Q (some x) s → R (.done (some (some x), hit)) s) → (y = k → R (.yield (none, some x)) s) → (y ≠ k → R (.yield (none, hit)) s) → y = k ∧ hit = none ∧ Q (some x) s ∧ R (.done (some (some x), hit)) s ∧ R (.yield (none, some x)) s ∨ y ≠ k ∧ R (.yield (none, hit)) s := fun x e y hit R hy hn r1 r2 r3 => by
    by_cases c : y = k
    · have h1 : ks[x]? = some k := by rw [hy, c]
      exact .inl ⟨c, hn c, q1 x h1, r1 c h1 (q1 x h1), r2 c⟩
    · exact .inr ⟨c, r3 c⟩
  by_cases hex : (es.all fun e => isExactStrKey e.key) = true
  all_goals by_cases hall : (u :: (plc es (k.hash w)).filterMap (fun i => es[i]?.map (·.key))).all carriedByValue = true
  all_goals by_cases hone : (((plc es (k.hash w)).filterMap (fun i => es[i]?.map (·.key))) == [u]) = true
  all_goals unfold plc at hall hone walkP tells
  all_goals cases hk
  all_goals (try dsimp only)
  all_goals first | (rw [if_pos hex]; exact text _ _ rfl) | skip
  all_goals first | rw [if_neg hex] | skip
  all_goals first | (rw [if_pos hall]; exact walkP) | skip
  all_goals first | rw [if_neg hall] | skip
  all_goals first | rw [if_neg (notold _ rfl)] | skip
  all_goals first | (rw [if_pos hone]; refine wpAny_bind (wpAny_pure ?_)) | (rw [if_neg hone]; refine wpAny_bind (tells _ ?_))
  all_goals rw [if_neg (by simp)]
  all_goals refine wpAny_bind (wpAny_mono (loop _ ?_) (fun b s' hb => ?_) fun _ _ e => e)
  all_goals first | (rcases hb with ⟨rfl, ⟨r, rfl, q⟩ | ⟨r, rfl, q⟩⟩ <;> exact wpAny_pure q) | skip
  all_goals intro x e y hit he hy ey hh hn R r1 r2 r3
  all_goals rw [he]
  all_goals dsimp only
  all_goals rw [if_pos (by rw [hh]; exact beq_self_eq_true _)]
  all_goals refine wpAny_bind (wpAny_dictEpoch ho hd (wpAny_bind (eqs ey (wpAny_bind (wpAny_dictEpoch ho hd ?_)))))
  all_goals rw [if_neg (by simp)]
  all_goals rcases body x e y hit R hy hn r1 r2 r3 with ⟨c, h0, _, d1, d2⟩ | ⟨c, d3⟩
  all_goals first | (rw [decide_eq_true c]; subst h0; rw [if_pos rfl, if_neg (by simp)]; exact wpAny_bind (wpAny_rule (wpAny_ite_split (fun _ => wpAny_pure d1) fun _ => wpAny_pure d2))) | (rw [decide_eq_false c, if_neg (by simp)]; refine wpAny_bind (wpAny_rule ?_); rw [if_neg (by simp)]; exact wpAny_pure d3)
/-- the key looked up: its place, or none -/
theorem dictGet_any {d : Addr} {o : Obj} {es : Array DictEntry} {ep : Nat} {ks : List NestedKey} {k : NestedKey} {u : Value} {Q : Option Value → Shared → Prop} (hu : A.units + 8 < cLine) (hk : NestedIs s.heap k u) (h8 : k.depth ≤ 8)
    (ho : s.heap.get? d = some o) (hd : o.data = .dict es ep) (S : Ks w s.heap ks es) (q0 : k ∉ ks → Q none { s with toks := s.toks + k.draws })
    (q1 : ∀ (j : Nat) (e : DictEntry), ks[j]? = some k → es[j]? = some e → Q (some e.val) { s with toks := s.toks + k.draws }) : wpAny (model prog w) A (dictGet d u) Q E s := by
  unfold dictGet
  try with_reducible refine wpAny_holding ?_
  refine wpAny_bind (pyHash_key k u A s _ hk (by omega) (wpAny_bind (dictFind_any (s := { s with toks := s.toks + k.draws }) hu hk h8 ho hd S (fun n => wpAny_pure (q0 n)) fun j hj => ?_)))
  obtain ⟨e, he, _⟩ := S.to hj
  refine wpAny_bind (wpAny_dictEntries (s := { s with toks := s.toks + k.draws }) ho hd ?_)
  rw [he]
  exact wpAny_pure (q1 j e hj he)
theorem nested_but {h h' : Heap} {d : Addr} {o : Obj} {es : Array DictEntry} {ep : Nat} {k : NestedKey} {v : Value} (x : NestedIs h k v) (ho : h.get? d = some o) (hd : o.data = .dict es ep) (sb : Heap.SameBut d h h') : NestedIs h' k v :=
  NestedIs.at (fun b ob vs n hb hc => by
    refine (sb.2 b fun z => ?_).trans hb
    rw [z, ho] at hb
    cases hb
    rw [hd] at hc
    cases hc) k v x
theorem Ks.but {h h' : Heap} {d : Addr} {o : Obj} {es es' : Array DictEntry} {ep : Nat} {ks : List NestedKey} (S : Ks w h ks es') (ho : h.get? d = some o) (hd : o.data = .dict es ep) (sb : Heap.SameBut d h h') : Ks w h' ks es' :=
  ⟨S.len, fun i e he => let ⟨x, h1, h2, h3⟩ := S.at' i e he; ⟨x, h1, nested_but h2 ho hd sb, h3⟩, S.nod⟩
/-- a key is put in: its value exchanged, or a new entry at the end -/
theorem dictSet_any {d : Addr} {o : Obj} {es : Array DictEntry} {ep : Nat} {ks : List NestedKey} {k : NestedKey} {u v : Value} {Q : Unit → Shared → Prop} (hu : A.units + 8 < cLine) (hk : NestedIs s.heap k u) (h8 : k.depth ≤ 8)
    (ho : s.heap.get? d = some o) (hx : o.ExactDict) (hd : o.data = .dict es ep) (S : Ks w s.heap ks es) (hz : es.size ≤ sizeLine)
    (q : ∀ (h' : Heap) (es' : Array DictEntry) (ep' : Nat), h'.DictRaw d es' ep' → Heap.SameBut d s.heap h' →
      ((k ∉ ks ∧ es' = es.push ⟨k.hash w, u, v⟩) ∨ ∃ (j : Nat) (e : DictEntry), ks[j]? = some k ∧ es[j]? = some e ∧ es' = es.modify j (fun e => { e with val := v })) → Q () { s with heap := h', toks := s.toks + k.draws }) :
    wpAny (model prog w) A (dictSet d u v) Q E s := by
  unfold dictSet
  try with_reducible refine wpAny_holding ?_
  refine wpAny_bind (pyHash_key k u A s _ hk (by omega) ?_)
  unfold dictSetHashed
  try with_reducible refine wpAny_holding ?_
  refine wpAny_bind (dictFind_any (s := { s with toks := s.toks + k.draws }) hu hk h8 ho hd S (fun n => ?_) fun j hj => ?_)
  · exact wpAny_bind (wpAny_rule (wpAny_updateDictKeys (hz := hz) (s := { s with toks := s.toks + k.draws }) ho hd
      (q _ _ (ep + 1) ⟨_, Heap.get?_update_self _ ho (Obj.isFreed_of_dict (Obj.data_mapDictKeys hd _)), hx.mapDictKeys _, Obj.data_mapDictKeys hd _⟩ (Heap.SameBut.update ..) (.inl ⟨n, rfl⟩))))
  · obtain ⟨e, he, _⟩ := S.to hj
    exact wpAny_bind (wpAny_rule (wpAny_bind (wpAny_updateDict (s := { s with toks := s.toks + k.draws }) ho hd (wpAny_point
      (q _ _ ep ⟨_, Heap.get?_update_self _ ho (Obj.isFreed_of_dict (Obj.data_mapDict hd _)), hx.mapDict _, Obj.data_mapDict hd _⟩ (Heap.SameBut.update ..) (.inr ⟨j, e, hj, he, rfl⟩))))))
theorem contains_any {d : Addr} {o : Obj} {es : Array DictEntry} {ep : Nat} {ks : List NestedKey} {k : NestedKey} {u : Value} {Q : Bool → Shared → Prop} (hu : A.units + 9 < cLine) (hk : NestedIs s.heap k u) (h8 : k.depth ≤ 8) (hm : (d == sysModules) = false)
    (ho : s.heap.get? d = some o) (hx : o.ExactDict) (hd : o.data = .dict es ep) (S : Ks w s.heap ks es) (q : Q (decide (k ∈ ks)) { s with toks := s.toks + k.draws }) : wpAny (model prog w) A (contains (.ref d) u) Q E s := by
  have ty : s.TypeIs (.ref d) "dict" := ⟨o, ho, hx.1⟩
  refine wpAny_contains_slot ty F.slot_dict_contains ?_
  refine call_meetsIn F.slot_dict_contains ty F.entry_dict_contains (F.args_dict_contains_2 _ _) (S := fun A' R s' => A' = A ∧ s' = s ∧ R (.ok (.ret (.bool (decide (k ∈ ks))))) { s with toks := s.toks + k.draws }) (fun A' R s' hS => ?_) ⟨rfl, rfl, wpAny_truthy_bool q⟩
  obtain ⟨rfl, rfl, hq⟩ := hS
  show wpAny _ _ (dictGet d u >>= _) _ _ _
  refine wpAny_bind (dictGet_any (by show A'.units + 1 + 8 < cLine; omega) hk h8 ho hd S (fun n => ?_) fun j e hj he => ?_)
  · rw [decide_eq_false n] at hq
    show wpAny _ _ (Builtin.Dict.pendingKey? d u >>= _) _ _ _
    exact wpAny_bind (wpAny_pendingKey_other hm (wpAny_pure hq))
  · rw [decide_eq_true (List.mem_of_getElem? hj)] at hq
    exact wpAny_pure hq
theorem setItem_any {d : Addr} {o : Obj} {es : Array DictEntry} {ep : Nat} {ks : List NestedKey} {k : NestedKey} {u v : Value} {Q : Unit → Shared → Prop} (hu : A.units + 9 < cLine) (hk : NestedIs s.heap k u) (h8 : k.depth ≤ 8)
    (ho : s.heap.get? d = some o) (hx : o.ExactDict) (hd : o.data = .dict es ep) (S : Ks w s.heap ks es) (hz : es.size ≤ sizeLine)
    (q : ∀ (h' : Heap) (es' : Array DictEntry) (ep' : Nat), h'.DictRaw d es' ep' → Heap.SameBut d s.heap h' →
      ((k ∉ ks ∧ es' = es.push ⟨k.hash w, u, v⟩) ∨ ∃ (j : Nat) (e : DictEntry), ks[j]? = some k ∧ es[j]? = some e ∧ es' = es.modify j (fun e => { e with val := v })) → Q () { s with heap := h', toks := s.toks + k.draws }) :
    wpAny (model prog w) A (setItem (.ref d) u v) Q E s := by
  have ty : s.TypeIs (.ref d) "dict" := ⟨o, ho, hx.1⟩
  unfold setItem
  try with_reducible refine wpAny_holding ?_
  refine wpAny_bind (wpAny_sequenceKey ty (by decide) (wpAny_bind (wpAny_callSpecial?_slot (name := Str.ofString "__setitem__") ty slot_dict_setitem (wpAny_call_entry slot_dict_setitem ty entry_dict_setitem ?_ (args_dict_setitem _ _ _)))))
  show wpAny _ _ (Builtin.Dict.notOrdered "__setitem__" _ >>= _) _ _ s
  refine wpAny_bind (wpAny_notOrdered_dict ty ?_)
  show wpAny _ _ (dictSet d u v >>= _) _ _ s
  exact wpAny_bind (dictSet_any (by show A.units + 1 + 8 < cLine; omega) hk h8 ho hx hd S hz fun h' es' ep' a b c => wpAny_pure ⟨.none, rfl, wpAny_pure (q h' es' ep' a b c)⟩)
end
end My

set_option linter.all false
namespace My
open PySem PySem.Spec PyProof.Rows L2
/-! ### keys and dicts over the abstract heap -/
mutual
inductive KeyV (H : Hp) : NestedKey → V → Prop
  | non : KeyV H .none .non
  | bl (b : Bool) : KeyV H (.num (if b = true then 1 else 0)) (.bl b)
  | int (i : Int) : KeyV H (.num i) (.int i)
  | str (x : Str) : KeyV H (.text x) (.str x)
  | tup {a : Addr} {xs : List V} {ks : List NestedKey} : H a = some (.tup xs) → KeyVs H ks xs → KeyV H (.tup ks) (.ref a)
inductive KeyVs (H : Hp) : List NestedKey → List V → Prop
  | nil : KeyVs H [] []
  | cons {k : NestedKey} {v : V} {ks : List NestedKey} {vs : List V} : KeyV H k v → KeyVs H ks vs → KeyVs H (k :: ks) (v :: vs)
end
mutual
theorem KeyV.up {H H' : Hp} (e : ∀ b xs, H b = some (.tup xs) → H' b = some (.tup xs)) : ∀ {k : NestedKey} {v : V}, KeyV H k v → KeyV H' k v
  | _, _, .non => .non
  | _, _, .bl b => .bl b
  | _, _, .int i => .int i
  | _, _, .str x => .str x
  | _, _, .tup h t => .tup (e _ _ h) (KeyVs.up e t)
theorem KeyVs.up {H H' : Hp} (e : ∀ b xs, H b = some (.tup xs) → H' b = some (.tup xs)) : ∀ {k : List NestedKey} {v : List V}, KeyVs H k v → KeyVs H' k v
  | _, _, .nil => .nil
  | _, _, .cons h t => .cons (KeyV.up e h) (KeyVs.up e t)
end
theorem KeyV.mono {H H' : Hp} (e : Same H H') {k : NestedKey} {v : V} (h : KeyV H k v) : KeyV H' k v := h.up fun b xs z => e b _ z
section
variable {X : Cx} {pins : List (Addr × Obj)} {σ : L2.St} {H : Hp} {s : Shared}
mutual
theorem KeyV.is (I : Inv X pins σ H s) : ∀ {k : NestedKey} {v : V} {u : Value}, KeyV H k v → RelV v u → NestedIs s.heap k u
  | _, _, _, .non, r => by cases (show _ = Value.none from r); exact .none
  | _, _, _, .bl b, r => by cases (show _ = Value.bool b from r); exact .bool rfl
  | _, _, _, .int i, r => by obtain ⟨t, rfl⟩ := (show ∃ t, _ = Value.int i t from r); exact .int _ _
  | _, _, _, .str x, r => by obtain ⟨t, rfl⟩ := (show ∃ t, _ = Value.str x t from r); exact .text _ _
  | _, _, u, @KeyV.tup _ a xs ks h t, r => by
    cases (show u = Value.ref a from r)
    obtain ⟨_, its, rv, o, ho, hc, n, hd⟩ := I.hok _ _ h
    exact .tup ho hc hd (KeyVs.is I t rv)
theorem KeyVs.is (I : Inv X pins σ H s) : ∀ {ks : List NestedKey} {vs : List V} {us : List Value}, KeyVs H ks vs → Vals vs us → NestedAll s.heap ks us
  | _, _, _, .nil, r => by cases r; exact .nil
  | _, _, _, .cons h t, r => by
    cases r with
    | cons r1 r2 => exact .cons (KeyV.is I h r1) (KeyVs.is I t r2)
end
end
/-- an entry: its key, the key as it stands, its value -/
abbrev Kvv := NestedKey × V × V
def EnV (w : World) (H : Hp) (x : Kvv) (e : DictEntry) : Prop := KeyV H x.1 x.2.1 ∧ RelV x.2.1 e.key ∧ e.hash = x.1.hash w ∧ x.1.depth ≤ 8 ∧ RelV x.2.2 e.val
structure Ents (w : World) (H : Hp) (kvs : List Kvv) (es : Array DictEntry) : Prop where
  prd : Paired (EnV w H) kvs es.toList
  nod : (kvs.map (·.1)).Nodup
  lt : kvs.length ≤ sizeLine
theorem Ents.up {w : World} {H H' : Hp} {kvs : List Kvv} {es : Array DictEntry} (h : Ents w H kvs es) (e : ∀ b xs, H b = some (.tup xs) → H' b = some (.tup xs)) : Ents w H' kvs es :=
  ⟨Paired.mapP h.prd fun a b x => ⟨x.1.up e, x.2⟩, h.nod, h.lt⟩
theorem Ents.len {w : World} {H : Hp} {kvs : List Kvv} {es : Array DictEntry} (h : Ents w H kvs es) : kvs.length = es.size := by
  have := Paired.length h.prd
  rw [Array.length_toList] at this
  exact this
theorem Ents.get {w : World} {H : Hp} {kvs : List Kvv} {es : Array DictEntry} (h : Ents w H kvs es) {i : Nat} {x : Kvv} (e : kvs[i]? = some x) : ∃ en, es[i]? = some en ∧ EnV w H x en := by
  obtain ⟨b, h1, h2⟩ := paired_get h.prd e
  exact ⟨b, by rw [← h1, Array.getElem?_toList], h2⟩
theorem Ents.back {w : World} {H : Hp} {kvs : List Kvv} {es : Array DictEntry} (h : Ents w H kvs es) {i : Nat} {en : DictEntry} (e : es[i]? = some en) : ∃ x, kvs[i]? = some x ∧ EnV w H x en := by
  have hi : i < kvs.length := by rw [h.len]; exact (Array.getElem?_eq_some_iff.mp e).1
  obtain ⟨b, h1, h2⟩ := h.get (List.getElem?_eq_getElem hi)
  rw [e] at h1
  cases h1
  exact ⟨_, List.getElem?_eq_getElem hi, h2⟩
def rawO (d : Addr) (es : Array DictEntry) (ep : Nat) : HO := .ext fun h => h.DictRaw d es ep ∧ (d == sysModules) = false
/-- a dict of one's own, to be changed -/
def DN (w : World) (H : Hp) (d : Addr) (kvs : List Kvv) : Prop := ∃ es ep, H d = some (rawO d es ep) ∧ Ents w H kvs es
def IsDU (d : Addr) (u : HO) : Prop := (∃ kvs, u = .dK kvs) ∨ ∃ es ep, u = rawO d es ep
/-- a dict that stands still -/
def DF (w : World) (H : Hp) (d : Addr) (kvs : List Kvv) : Prop := ∃ od u es ep, H d = some (.frz od u) ∧ od.ExactDict ∧ od.data = .dict es ep ∧ (d == sysModules) = false ∧ Ents w H kvs es ∧ IsDU d u
theorem DF.mono {w : World} {H H' : Hp} {d : Addr} {kvs : List Kvv} (h : DF w H d kvs) (e : Same H H') : DF w H' d kvs := by
  obtain ⟨od, u, es, ep, h1, h2, h3, h4, h5, h6⟩ := h
  exact ⟨od, u, es, ep, e _ _ h1, h2, h3, h4, h5.up (fun b xs z => e b _ z), h6⟩
/-- a dict that may be read: any of the three -/
def kN : Key → NestedKey
  | .inl i => .num i
  | .inr x => .text x
theorem kN_inj {a b : Key} (h : kN a = kN b) : a = b := by
  cases a <;> cases b <;> simp only [kN, NestedKey.num.injEq, NestedKey.text.injEq] at h
  · rw [h]
  · cases h
  · cases h
  · rw [h]
theorem kN_kv (H : Hp) (k : Key) : KeyV H (kN k) (kV k) := by cases k <;> constructor
theorem kN_hash (w : World) (k : Key) : (kN k).hash w = keyH w k := by cases k <;> (simp only [kN, NestedKey.hash]; rfl)
theorem kN_depth (k : Key) : (kN k).depth ≤ 8 := by cases k <;> (simp only [kN, NestedKey.depth]; omega)
def kvvs (kvs : List (Key × V)) : List Kvv := kvs.map fun kv => (kN kv.1, kV kv.1, kv.2)
section
variable {X : Cx} {pins : List (Addr × Obj)} {σ : L2.St} {H : Hp} {s : Shared}
theorem pairs_ents {P : Program} {w : World} {H : Hp} : ∀ {kvs : List (Key × V)} {vs : List (Key × Value)} {es : List DictEntry}, KV kvs vs → Pairs (mixKind P w) es vs → (∀ e ∈ es, ∃ k, keyIs k e.key = true ∧ e.hash = keyH w k) → Paired (EnV w H) (kvvs kvs) es
  | _, _, _, .nil, .nil, _ => .nil
  | (k, v) :: _, (k', v') :: _, e :: es, .cons ⟨h1, h2⟩ t, .cons g1 g2 g3, hh => by
    have e1 : k = k' := h1
    subst e1
    refine .cons ⟨kN_kv H k, relV_key (show keyIs k _ = true from g1), ?_, kN_depth k, ?_⟩ (pairs_ents t g3 fun x hx => hh x (List.mem_cons_of_mem _ hx))
    · obtain ⟨k2, q1, q2⟩ := hh e List.mem_cons_self
      have e2 : k = k2 := (mixKind P w).inj _ _ _ (show keyIs k _ = true from g1) q1
      rw [q2, e2, kN_hash]
    · have e2 : e.val = v' := g2
      rw [e2]; exact h2
theorem kvvs_nod {kvs : List (Key × V)} {vs : List (Key × Value)} (r : KV kvs vs) (n : (vs.map (·.1)).Nodup) : ((kvvs kvs).map (·.1)).Nodup := by
  have e1 : kvs.map (·.1) = vs.map (·.1) := by
    have : ∀ {kvs : List (Key × V)} {vs : List (Key × Value)}, KV kvs vs → kvs.map (·.1) = vs.map (·.1) := by
      intro kvs vs r
      unfold KV at r
      induction r with
      | nil => rfl
      | cons h _ ih => rw [List.map_cons, List.map_cons, ih, h.1]
    exact this r
  unfold kvvs
  rw [List.map_map]
  have e2 : kvs.map ((fun x : Kvv => x.1) ∘ fun kv => (kN kv.1, kV kv.1, kv.2)) = (kvs.map (·.1)).map kN := by rw [List.map_map]; rfl
  rw [e2, e1]
  exact List.Pairwise.map kN (fun a b h z => h (kN_inj z)) n
/-- a dict as the layer knows it, read entry by entry -/
theorem dk_raw {d : Addr} {kvs : List (Key × V)} (hok : HOk X.prog X.w H s.heap) (h : ObjOk X.prog X.w H s.heap d (.dK kvs)) : ∃ o es ep, s.heap.get? d = some o ∧ o.ExactDict ∧ o.data = .dict es ep ∧ (d == sysModules) = false ∧ ∀ H2, Ents X.w H2 (kvvs kvs) es := by
  obtain ⟨z, hs, vs, kv, o, es, ep, ho, hx, hd, hk, hp, hn⟩ := h
  refine ⟨o, es, ep, ho, hx, hd, hs, fun H2 => ⟨pairs_ents kv hp fun e he => ?_, kvvs_nod kv hn, by unfold kvvs; rw [List.length_map]; exact z⟩⟩
  exact hk e (Array.mem_toList_iff.mp he)
theorem DN.raw {d : Addr} {kvs : List Kvv} (hok : HOk X.prog X.w H s.heap) (h : DN X.w H d kvs) : ∃ o es ep, H d = some (rawO d es ep) ∧ s.heap.get? d = some o ∧ o.ExactDict ∧ o.data = .dict es ep ∧ (d == sysModules) = false ∧ Ents X.w H kvs es := by
  obtain ⟨es, ep, h1, h2⟩ := h
  obtain ⟨⟨⟨o, ho, hx, hd⟩, hm⟩, _⟩ := hok _ _ h1
  exact ⟨o, es, ep, h1, ho, hx, hd, hm, h2⟩
theorem DF.raw {d : Addr} {kvs : List Kvv} (hok : HOk X.prog X.w H s.heap) (h : DF X.w H d kvs) : ∃ od u es ep, H d = some (.frz od u) ∧ s.heap.get? d = some od ∧ od.ExactDict ∧ od.data = .dict es ep ∧ (d == sysModules) = false ∧ Ents X.w H kvs es := by
  obtain ⟨od, u, es, ep, h1, h2, h3, h4, h5, _⟩ := h
  exact ⟨od, u, es, ep, h1, (hok _ _ h1).1, h2, h3, h4, h5⟩
theorem Ents.ks {kvs : List Kvv} {es : Array DictEntry} (I : Inv X pins σ H s) (h : Ents X.w H kvs es) : Ks X.w s.heap (kvs.map (·.1)) es := by
  refine ⟨by rw [List.length_map]; exact h.len, fun i e he => ?_, h.nod⟩
  obtain ⟨x, h1, h2⟩ := h.back he
  exact ⟨x.1, by rw [List.getElem?_map, h1]; rfl, h2.1.is I h2.2.1, h2.2.2.1, h2.2.2.2.1⟩
theorem tup_upd {H : Hp} {d : Addr} {o : HO} {u : HO} (h : H d = some u) (n : ∀ xs, u ≠ .tup xs) : ∀ b xs, H b = some (.tup xs) → upd H d o b = some (.tup xs) := fun b xs e => by
  rw [upd_ne fun z => by rw [z, h] at e; cases e; exact n _ rfl]; exact e
/-! ### a dict is made to stand still -/
def FrzS (w : World) (H : Hp) (d : Addr) (Q : Hp → Prop) : Prop :=
  (∃ kvs, H d = some (.dK kvs) ∧ ∀ od, DF w (upd H d (.frz od (.dK kvs))) d (kvvs kvs) → Q (upd H d (.frz od (.dK kvs)))) ∨
  ∃ kvs es ep, H d = some (rawO d es ep) ∧ Ents w H kvs es ∧ ∀ od, DF w (upd H d (.frz od (rawO d es ep))) d kvs → Q (upd H d (.frz od (rawO d es ep)))
theorem FrzS.run {d : Addr} {Q : Hp → Prop} (I : Inv X pins σ H s) (h : FrzS X.w H d Q) : ∃ H', Inv X pins σ H' s ∧ Q H' := by
  rcases h with ⟨kvs, hd, q⟩ | ⟨kvs, es, ep, hd, he, q⟩
  · obtain ⟨od, J⟩ := I.lock hd trivial
    refine ⟨_, J, q od ?_⟩
    obtain ⟨g1, g2⟩ := J.hok d _ upd_same
    obtain ⟨o, es, ep, ho, hx, hdt, hm, hE⟩ := dk_raw J.hok g2
    rw [g1] at ho
    cases ho
    exact ⟨od, _, es, ep, upd_same, hx, hdt, hm, hE _, .inl ⟨_, rfl⟩⟩
  · obtain ⟨od, J⟩ := I.lock hd trivial
    refine ⟨_, J, q od ?_⟩
    obtain ⟨g1, ⟨⟨o, ho, hx, hdt⟩, hm⟩, _⟩ := J.hok d _ upd_same
    rw [g1] at ho
    cases ho
    exact ⟨od, _, es, ep, upd_same, hx, hdt, hm, he.up (tup_upd hd fun xs z => nomatch z), .inr ⟨_, _, rfl⟩⟩
end
def tFrz (w : World) (te : TE) : TE := fun σ H Q => te σ H fun v H1 => ∃ d, FrzS w H1 d (fun H2 => Q v H2)
theorem pe_frz {X : Cx} {e : Expr} {te : TE} (h : PE X e te) : PE X e (tFrz X.w te) := by
  refine ⟨fun pins s σ H Q I hw => ?_⟩
  refine thn (h.run pins s σ H _ I hw) fun u s1 ⟨x, H1, I1, r, d, q⟩ => ?_
  obtain ⟨H2, I2, q⟩ := q.run I1
  exact ⟨x, H2, I2, r, q⟩
end My

set_option maxRecDepth 10000000
set_option linter.all false
namespace My
open PySem PySem.Spec PyProof.Rows L2
/-! ### d[k] = v, any key -/
def putN (kvs : List Kvv) (k : NestedKey) (i v : V) : List Kvv := if k ∈ kvs.map (·.1) then kvs.map (fun x => if x.1 = k then (x.1, x.2.1, v) else x) else kvs ++ [(k, i, v)]
theorem putN_new {kvs : List Kvv} {k : NestedKey} {i v : V} (h : k ∉ kvs.map (·.1)) : putN kvs k i v = kvs ++ [(k, i, v)] := if_neg h
theorem putN_old {kvs : List Kvv} {k : NestedKey} {i v : V} (h : k ∈ kvs.map (·.1)) : putN kvs k i v = kvs.map (fun x => if x.1 = k then (x.1, x.2.1, v) else x) := if_pos h
theorem putN_keys_old {kvs : List Kvv} {k : NestedKey} {v : V} : (kvs.map (fun x => if x.1 = k then (x.1, x.2.1, v) else x)).map (·.1) = kvs.map (·.1) := by
  rw [List.map_map]
  refine List.map_congr_left fun x _ => ?_
  show (if x.1 = k then (x.1, x.2.1, v) else x).1 = x.1
  split <;> rfl
theorem paired_app {α β : Type} {G : α → β → Prop} : ∀ {l1 : List α} {l2 : List β} {m1 : List α} {m2 : List β}, Paired G l1 l2 → Paired G m1 m2 → Paired G (l1 ++ m1) (l2 ++ m2)
  | _, _, _, _, .nil, h => h
  | _, _, _, _, .cons a t, h => .cons a (paired_app t h)
theorem paired_mod {w : World} {H : Hp} {k : NestedKey} {v : V} {u : Value} (r : RelV v u) : ∀ {kvs : List Kvv} {es : List DictEntry} {j : Nat}, Paired (EnV w H) kvs es → (kvs.map (·.1)).Nodup → (kvs.map (·.1))[j]? = some k → Paired (EnV w H) (kvs.map (fun x => if x.1 = k then (x.1, x.2.1, v) else x)) (es.modify j (fun e => { e with val := u }))
  | _, _, _, .nil, _, e => by simp at e
  | x :: kvs, e :: es, 0, .cons h t, n, hj => by
    simp only [List.map_cons, List.getElem?_cons_zero, Option.some.injEq] at hj
    rw [List.map_cons, List.nodup_cons] at n
    rw [List.map_cons, List.modify_zero_cons, if_pos hj]
    refine .cons ⟨h.1, h.2.1, h.2.2.1, h.2.2.2.1, r⟩ ?_
    have : kvs.map (fun x => if x.1 = k then (x.1, x.2.1, v) else x) = kvs := by
      conv => rhs; rw [← List.map_id kvs]
      refine List.map_congr_left fun y hy => if_neg fun z => n.1 ?_
      rw [hj, ← z]
      exact List.mem_map.mpr ⟨y, hy, rfl⟩
    rw [this]
    exact t
  | x :: kvs, e :: es, j + 1, .cons h t, n, hj => by
    simp only [List.map_cons, List.getElem?_cons_succ] at hj
    rw [List.map_cons, List.nodup_cons] at n
    rw [List.map_cons, List.modify_succ_cons]
    rw [if_neg fun z => n.1 (by rw [z]; exact List.mem_of_getElem? hj)]
    exact .cons h (paired_mod r t n.2 hj)
theorem ents_put {w : World} {H H' : Hp} {kvs : List Kvv} {es es' : Array DictEntry} {k : NestedKey} {i v : V} {iu u : Value} (h : Ents w H kvs es) (hk : KeyV H k i) (ri : RelV i iu) (h8 : k.depth ≤ 8) (rv : RelV v u) (hz : kvs.length < sizeLine)
    (up : ∀ b xs, H b = some (.tup xs) → H' b = some (.tup xs))
    (c : (k ∉ kvs.map (·.1) ∧ es' = es.push ⟨k.hash w, iu, u⟩) ∨ ∃ (j : Nat) (e : DictEntry), (kvs.map (·.1))[j]? = some k ∧ es[j]? = some e ∧ es' = es.modify j (fun e => { e with val := u })) : Ents w H' (putN kvs k i v) es' := by
  rcases c with ⟨n, rfl⟩ | ⟨j, e, hj, he, rfl⟩
  · rw [putN_new n]
    refine ⟨?_, ?_, by rw [List.length_append, List.length_singleton]; omega⟩
    · rw [Array.toList_push]
      exact paired_app (h.up up).prd (.cons ⟨hk.up up, ri, rfl, h8, rv⟩ .nil)
    · rw [List.map_append, List.nodup_append]
      refine ⟨h.nod, by simp, fun x hx y hy z => n ?_⟩
      simp only [List.map_cons, List.map_nil, List.mem_singleton] at hy
      rw [← hy, ← z]; exact hx
  · rw [putN_old (List.mem_of_getElem? hj)]
    refine ⟨?_, by rw [putN_keys_old]; exact h.nod, by rw [List.length_map]; exact h.lt⟩
    have := paired_mod (w := w) rv (h.up up).prd h.nod hj
    have e2 : (es.modify j (fun e => { e with val := u })).toList = es.toList.modify j (fun e => { e with val := u }) := by
      cases es; simp
    rw [e2]; exact this
def rSetN (w : World) : V → V → V → Hp → (Hp → Prop) → Prop := fun o i v H Q => ∃ (d : Addr) (k : NestedKey), o = .ref d ∧ KeyV H k i ∧ k.depth ≤ 8 ∧
  ((∃ kvs, H d = some (.dK kvs) ∧ kvs.length < sizeLine ∧ ∀ H', (∀ b, b ≠ d → H' b = H b) → DN w H' d (putN (kvvs kvs) k i v) → Q H') ∨
   ∃ kvs, DN w H d kvs ∧ kvs.length < sizeLine ∧ ∀ H', (∀ b, b ≠ d → H' b = H b) → DN w H' d (putN kvs k i v) → Q H')
section
variable {X : Cx} {pins : List (Addr × Obj)} {σ : L2.St} {H : Hp} {s : Shared}
theorem ext_ok {P : Program} {w : World} {H : Hp} {h : Heap} {d : Addr} {es : Array DictEntry} {ep : Nat} (r : h.DictRaw d es ep) (m : (d == sysModules) = false) : ObjOk P w H h d (rawO d es ep) :=
  ⟨⟨r, m⟩, (let ⟨o, e, _⟩ := r; ⟨o, e⟩), fun h1 h2 q k => ⟨(let ⟨o, e, x⟩ := q.1; ⟨o, k o e, x⟩), q.2⟩⟩
theorem set_any (hu : X.A.units + 9 < cLine) : PSet X (rSetN X.w) := by
  intro pins s σ H o i v ov iv u Q I ro ri rv h
  obtain ⟨d, k, rfl, hk, h8, h⟩ := h
  obtain rfl : ov = Value.ref d := ro
  have key : ∀ {kvs : List Kvv} {ob : Obj} {es : Array DictEntry} {ep : Nat} {hd : HO}, H d = some hd → Mut (some hd) → (∀ xs, hd ≠ .tup xs) → s.heap.get? d = some ob → ob.ExactDict → ob.data = .dict es ep → (d == sysModules) = false → Ents X.w H kvs es → kvs.length < sizeLine →
      (∀ H', (∀ b, b ≠ d → H' b = H b) → DN X.w H' d (putN kvs k i v) → Q H') → wpAny (model X.prog X.w) X.A (setItem (.ref d) iv u) (fun _ s' => ∃ H', Inv X pins σ H' s' ∧ Q H') X.xe s := by
    intro kvs ob es ep hd hH mu nt ho hx hdt hm hE hz q
    refine setItem_any hu (hk.is I ri) h8 ho hx hdt (hE.ks I) (by rw [← hE.len]; exact hE.lt) fun h' es' ep' hr hs hc => ?_
    have up : ∀ b xs, H b = some (.tup xs) → upd H d (rawO d es' ep') b = some (.tup xs) := tup_upd hH nt
    refine ⟨upd H d (rawO d es' ep'), I.write (x := d) (e := d) (by rw [hH]; exact mu) (.inl rfl) (fun b u hb e => (hs.2 b hb).trans e) (let ⟨o, e, _⟩ := hr; ⟨o, e⟩) (ext_ok hr hm), q _ (fun b hb => upd_ne hb) ⟨es', ep', upd_same, ents_put hE hk ri h8 rv hz up hc⟩⟩
  rcases h with ⟨kvs, hd, hz, q⟩ | ⟨kvs, hd, hz, q⟩
  · obtain ⟨ob, es, ep, ho, hx, hdt, hm, hE⟩ := dk_raw I.hok (I.hok _ _ hd)
    exact key hd trivial (fun _ z => nomatch z) ho hx hdt hm (hE H) (by unfold kvvs; rw [List.length_map]; exact hz) q
  · obtain ⟨ob, es, ep, hH, ho, hx, hdt, hm, hE⟩ := hd.raw I.hok
    exact key hH trivial (fun _ z => nomatch z) ho hx hdt hm hE hz q
/-! ### {k: v}, one entry, any key -/
def tDisp1 (w : World) (tk tv : TE) : TE := fun σ H Q => ∀ p, H p = none → tk σ (upd H p (rawO p #[] 0)) fun x H1 => tv σ H1 fun y H2 => ∃ k : NestedKey, H2 p = some (rawO p #[] 0) ∧ KeyV H2 k x ∧ k.depth ≤ 8 ∧
  ∀ H3, (∀ b, b ≠ p → H3 b = H2 b) → DN w H3 p [(k, x, y)] → Q (.ref p) H3
theorem pe_disp1 {ek ev : Expr} {tk tv : TE} {pos : Pos} (hu : X.A.units + 8 < cLine) (hk : PE X ek tk) (hv : PE X ev tv) : PE X (.Dict [some ek] [ev] pos) (tDisp1 X.w tk tv) := by
  refine ⟨fun pins s σ H Q I q => ?_⟩
  have hn := I.hok.fresh (Nat.le_refl s.heap.objs.size)
  have hm : (s.heap.objs.size == sysModules) = false := beq_eq_false_iff_ne.mpr (Nat.ne_of_gt I.big)
  have I1 := I.laid (a := s.heap.objs.size) (o := rawO s.heap.objs.size #[] 0) (h' := s.heap.push { cls := .type "dict", data := .dict #[] }) (t' := s.toks) (fun _ _ q => Heap.get?_push_of_some _ q) (Nat.le_refl _)
    (ext_ok ⟨_, Heap.get?_push_size _ rfl, ⟨rfl, rfl, rfl⟩, rfl⟩ hm)
  rw [arm_eval_Dict, zip_pairTrees _ _ _ _ rfl rfl, dictDisplay_pairs _ (by simp [pairTrees]) (by simp [pairTrees])]
  refine wpAny_bind (wpAny_standAt (wpAny_bind ?_))
  unfold subDict
  refine wpAny_bind (wpAny_alloc ?_)
  refine wpAny_bind (wpAny_holding ?_)
  rw [if_pos (by simp [pairTrees])]
  refine wpAny_bind (pairTrees_cons_walk ?_)
  refine thn (hk.run pins _ σ _ _ I1 (q _ hn)) fun u1 s1 ⟨x, H1, J1, r1, q1⟩ => ?_
  refine thn (hv.run pins _ σ _ _ J1 q1) fun u2 s2 ⟨y, H2, J2, r2, k, hp, hkv, h8, q2⟩ => ?_
  refine pairTrees_nil_walk (wpAny_holding ?_)
  obtain ⟨⟨⟨ob, ho, hx, hd⟩, _⟩, _⟩ := J2.hok _ _ hp
  rw [List.forIn_cons]
  refine wpAny_bind (wpAny_bind (wpAny_bind (dictSet_any hu (hkv.is J2 r1) h8 ho hx hd (ks := []) ⟨rfl, (fun i e he => by simp at he), List.nodup_nil⟩ (Nat.zero_le _) fun h' es' ep' hr hs hc => wpAny_pure ?_)))
  dsimp only
  rw [List.forIn_nil]
  have up : ∀ b xs, H2 b = some (.tup xs) → upd H2 s.heap.objs.size (rawO s.heap.objs.size es' ep') b = some (.tup xs) := tup_upd hp fun xs z => nomatch z
  refine wpAny_pure (wpAny_pure (wpAny_pure (wpAny_pure ⟨.ref _, upd H2 s.heap.objs.size (rawO s.heap.objs.size es' ep'), J2.write (x := s.heap.objs.size) (e := s.heap.objs.size) (by rw [hp]; trivial) (.inl rfl) (fun b u hb e => (hs.2 b hb).trans e) (let ⟨o, e, _⟩ := hr; ⟨o, e⟩) (ext_ok hr hm), rfl,
    q2 _ (fun b hb => upd_ne hb) ⟨es', ep', upd_same, ?_⟩⟩)))
  have := ents_put (kvs := []) (es := #[]) (w := X.w) (H := H2) (H' := upd H2 s.heap.objs.size (rawO s.heap.objs.size es' ep')) ⟨.nil, List.nodup_nil, Nat.zero_le _⟩ hkv r1 h8 r2 (by show 0 < sizeLine; decide) up hc
  rw [putN_new (by simp)] at this
  exact this
/-! ### dict(l), l a list of pairs -/
def putsN (kvs more : List Kvv) : List Kvv := more.foldl (fun acc x => putN acc x.1 x.2.1 x.2.2) kvs
theorem putN_len {kvs : List Kvv} {k : NestedKey} {i v : V} : (putN kvs k i v).length ≤ kvs.length + 1 := by
  unfold putN
  split
  · rw [List.length_map]; omega
  · simp
theorem putsN_len : ∀ (more kvs : List Kvv), (putsN kvs more).length ≤ kvs.length + more.length
  | [], _ => Nat.le_refl _
  | x :: r, kvs => by
    have h1 := putsN_len r (putN kvs x.1 x.2.1 x.2.2)
    have h2 := putN_len (kvs := kvs) (k := x.1) (i := x.2.1) (v := x.2.2)
    show (putsN (putN kvs x.1 x.2.1 x.2.2) r).length ≤ _
    rw [List.length_cons]; omega
theorem putsN_snoc (kvs more : List Kvv) (x : Kvv) : putsN kvs (more ++ [x]) = putN (putsN kvs more) x.1 x.2.1 x.2.2 := by unfold putsN; rw [List.foldl_append]; rfl
def rDictP (w : World) (K : PySem.W.Frag) : List V → Hp → VK → Prop := fun xs H Q => ∃ (a : Addr) (zs : List (Addr × Kvv)), xs = [.ref a] ∧ SqL K H a (zs.map fun z => V.ref z.1) ∧ zs.length ≤ 100000 ∧
  (∀ z ∈ zs, H z.1 = some (.tup [z.2.2.1, z.2.2.2]) ∧ KeyV H z.2.1 z.2.2.1 ∧ z.2.1.depth ≤ 8) ∧ ∀ p H', H p = none → (∀ b, b ≠ p → H' b = H b) → DN w H' p (putsN [] (zs.map (·.2))) → Q (.ref p) H'
theorem call_dictP' (hcalm : X.calm = true) (hu : X.A.units + 64 < cLine) : CallR X (.type "dict") (rDictP X.w X.K) := by
  intro pins s σ H xs us Q I r q
  obtain ⟨a, zs, ex, hq, h1k, hz, q⟩ := q
  subst ex
  obtain ⟨u, eu, rx⟩ := vals1 r
  subst eu
  cases rx
  obtain ⟨its, rv, pl, hsz⟩ := I.list hq
  obtain ⟨o, n, ho, hc, hd, hdat⟩ := pl
  have ei : its = zs.map fun z => Value.ref z.1 := by
    have := refs_at (ps := zs.map (·.1)) (us := its) (by rw [List.map_map]; exact rv)
    rw [this, List.map_map]; rfl
  subst ei
  have hm : (s.heap.objs.size == sysModules) = false := beq_eq_false_iff_ne.mpr (Nat.ne_of_gt I.big)
  -- the pairs as they stand
  have look : ∀ z ∈ zs, ∃ (k v : Value) (o2 : Obj) (n2 : Nat), s.heap.get? z.1 = some o2 ∧ o2.cls = .type "tuple" ∧ o2.data = .seq #[k, v] n2 ∧ RelV z.2.2.1 k ∧ RelV z.2.2.2 v := fun z hzm => by
    obtain ⟨_, its, rv2, o2, ho2, hc2, n2, hd2⟩ := I.hok _ _ (hz z hzm).1
    obtain ⟨x1, x2, ei2, r1, r2⟩ := vals2 rv2
    subst ei2
    exact ⟨x1, x2, o2, n2, ho2, hc2, hd2, r1, r2⟩
  have mk : ∃ ps : List (Value × Value), ps.length = zs.length ∧ ∀ (j : Nat) (z : Addr × Kvv), zs[j]? = some z → ∃ k v, ps[j]? = some (k, v) ∧ RelV z.2.2.1 k ∧ RelV z.2.2.2 v ∧ s.heap.IsTuple z.1 #[k, v] := by
    clear q hq rv ho hdat hd hc h1k hsz
    induction zs with
    | nil => exact ⟨[], rfl, fun j z e => by simp at e⟩
    | cons z r ih =>
      obtain ⟨ps, l, h⟩ := ih (fun y hy => hz y (List.mem_cons_of_mem _ hy)) fun y hy => look y (List.mem_cons_of_mem _ hy)
      obtain ⟨k, v, o2, n2, g1, g2, g3, g4, g5⟩ := look z List.mem_cons_self
      refine ⟨(k, v) :: ps, by simp [l], fun j y e => ?_⟩
      cases j with
      | zero =>
        simp only [List.getElem?_cons_zero, Option.some.injEq] at e
        subst e
        exact ⟨k, v, rfl, g4, g5, o2, g1, g2, n2, g3⟩
      | succ j => exact h j y (by simpa using e)
  obtain ⟨ps, lps, hps⟩ := mk
  have psz : ∀ (j : Nat) (k v : Value), ps[j]? = some (k, v) → ∃ z, zs[j]? = some z ∧ RelV z.2.2.1 k ∧ RelV z.2.2.2 v ∧ s.heap.IsTuple z.1 #[k, v] := fun j k v e => by
    have hj : j < zs.length := by rw [← lps]; exact (List.getElem?_eq_some_iff.mp e).1
    obtain ⟨k2, v2, e2, r1, r2, r3⟩ := hps j _ (List.getElem?_eq_getElem hj)
    rw [e] at e2
    cases e2
    exact ⟨_, List.getElem?_eq_getElem hj, r1, r2, r3⟩
  let Tab : Nat → Heap → Prop := fun i h => ∃ es ep, h.DictRaw s.heap.objs.size es ep ∧ Ents X.w H (putsN [] ((zs.map (·.2)).take i)) es ∧ ∀ b o, s.heap.get? b = some o → h.get? b = some o
  have szT : ∀ i, (putsN [] ((zs.map (·.2)).take i)).length ≤ 100000 := fun i => by
    have := putsN_len ((zs.map (·.2)).take i) []
    rw [List.length_take, List.length_map, List.length_nil] at this
    omega
  refine PySem.call_dict_arg (PairArg.list a (zs.map fun z => Value.ref z.1).toArray (fun j => ((zs[j]?).map (·.1)).getD 0) ps) ⟨⟨o, n, ho, hc, hd, hdat⟩, by simp [lps], fun j k v e => ?_⟩ fun s1 hs1 hdf ok1 => ?_
  · obtain ⟨z, ez, _, _, r3⟩ := psz j k v e
    refine ⟨by simp [ez], .inl ?_⟩
    show s.heap.IsTuple (((zs[j]?).map (·.1)).getD 0) _
    rw [ez]; exact r3
  · subst hs1
    refine updateFrom_arg (Tab := Tab) (PairArg.list a (zs.map fun z => Value.ref z.1).toArray (fun j => ((zs[j]?).map (·.1)).getD 0) ps) .none (I.ok.hd hcalm) ok1 hdf ?_ ?_ ?_ ?_ ?_
    · refine ⟨#[], 0, ⟨_, Heap.get?_push_size _ rfl, ⟨rfl, rfl, rfl⟩, rfl⟩, ?_, fun b o e => Heap.get?_push_of_some _ e⟩
      exact ⟨.nil, List.nodup_nil, Nat.zero_le _⟩
    · rintro i h ⟨es, ep, ⟨o, e, _⟩, _⟩
      exact Heap.lt_size e
    · rintro i h h' wr' nd hw ⟨es, ep, ⟨o, e, x⟩, hE, old⟩ k
      refine ⟨es, ep, ⟨o, k _ _ nd e, x⟩, hE, fun b o e => k b o (fun hb => ?_) (old b o e)⟩
      rcases hw b hb with z | z
      · cases z
      · rw [show (s.heap.push { cls := .type "dict", data := .dict #[] }).get? b = some o from Heap.get?_push_of_some _ e] at z
        cases z
    · rintro i k v s' Q' E' hi hr ⟨es, ep, ⟨ob, hob, hx, hdt⟩, hE, old⟩ hT qs
      obtain ⟨z, ez, r1, r2, r3⟩ := psz i k v hr
      obtain ⟨g1, g2, g3⟩ := hz z (List.mem_of_getElem? ez)
      have lift : ∀ {kk : NestedKey} {u : Value}, NestedIs s.heap kk u → NestedIs s'.heap kk u := fun x => NestedIs.at (fun b o vs m e _ => old b o e) _ _ x
      have KS := hE.ks I
      refine dictSet_any (by show X.A.units + 1 + 1 + 8 < cLine; omega) (lift (g2.is I r1)) g3 hob hx hdt (ks := (putsN [] ((zs.map (·.2)).take i)).map (·.1)) ⟨KS.len, (fun i e he => let ⟨x, h1, h2, h3⟩ := KS.at' i e he; ⟨x, h1, lift h2, h3⟩), KS.nod⟩ (by rw [← hE.len]; exact hE.lt) fun h' es' ep' hr' hs' hc' => qs h' _ ⟨es', ep', hr', ?_, fun b o e => ?_⟩ hs'
      · have et : (zs.map (·.2)).take (i + 1) = (zs.map (·.2)).take i ++ [z.2] := by
          rw [List.take_add_one, List.getElem?_map, ez]; rfl
        rw [et, putsN_snoc]
        exact ents_put hE g2 r1 g3 r2 (by have := szT i; rw [sizeLine_eq]; omega) (fun b xs e => e) hc'
      · exact (hs'.2 b (fun hb => by
          rw [hb] at e
          exact absurd (Heap.lt_size e) (Nat.lt_irrefl _))).trans (old b o e)
    · rintro h' tk ⟨es, ep, hr, hE, old⟩ kp
      refine ⟨rfl, ?_⟩
      have up : ∀ b xs, H b = some (.tup xs) → upd H s.heap.objs.size (rawO s.heap.objs.size es ep) b = some (.tup xs) := fun b xs e => by
        rw [upd_ne (fun hb => by rw [hb, I.hok.fresh (Nat.le_refl _)] at e; cases e)]; exact e
      rw [lps, ← List.length_map (f := fun z : Addr × Kvv => z.2) (as := zs), List.take_length] at hE
      exact ⟨.ref _, upd H s.heap.objs.size (rawO s.heap.objs.size es ep), I.laid (t' := tk) (fun b o e => old b o e) (Nat.le_refl _) (ext_ok hr hm), rfl, q _ _ (I.hok.fresh (Nat.le_refl _)) (fun b hb => upd_ne hb) ⟨es, ep, upd_same, hE.up up⟩⟩
end
end My

set_option linter.all false
namespace My
open PySem PySem.Spec PyProof.Rows L2
/-! ### a dict that stands still: its length, its walks, what is in it -/
section
variable {prog : Program} {w : World} {A : Around} {E : Value → Shared → Prop} {s : Shared}
theorem len_raw {d : Addr} {es : Array DictEntry} {ep : Nat} {Q : Value → Shared → Prop} (hd : (d == sysModules) = false) (hm : s.heap.DictRaw d es ep) (hz : es.size ≤ sizeLine) (q : ∀ t s', s' = { s with toks := t } → Q (.int es.size (s.toks + 1)) s') : wpAny (model prog w) A (call (.builtin "len") [.ref d]) Q E s := by
  have ln : (es.size : Int) < 2 ^ 63 := by rw [sizeLine_eq] at hz; omega
  refine Calls.call_function_entry kind_len plain_len entry_len (args_len1 _) ?_
  unfold Builtin.«len»
  refine wpAny_bind (m := oneArg "len" _) (wpAny_pure ?_)
  refine wpAny_bind (m := callSpecial? (.ref d) (Str.ofString "__len__")) (wpAny_callSpecial?_slot (name := Str.ofString "__len__") hm.typeIs F.slot_dict_len
    (call_meetsIn F.slot_dict_len hm.typeIs F.entry_dict_len (F.args_dict_len_1 _) (meets_dict_len_raw d hd) ⟨es, ep, hm, ?_⟩))
  show wpAny _ _ _ _ _ { s with toks := s.toks + 1 }
  refine wpAny_bind (wpAny_holding (wpAny_pure (wpAny_bind (wpAny_letGo ?_))))
  show wpAny _ _ (if ((es.size : Nat) : Int) < 0 then _ else _) _ _ _
  rw [if_neg (by omega)]
  show wpAny _ _ (if ((es.size : Nat) : Int) ≥ 2 ^ 63 then _ else _) _ _ _
  rw [if_neg (by omega)]
  exact wpAny_bind (wpAny_mkInt (wpAny_pure ⟨_, rfl, q _ _ rfl⟩))
theorem meets_vals_raw {d : Addr} (hd : (d == sysModules) = false) :
    MeetsIn prog w (Builtin.«dict.values» ⟨[.ref d], []⟩) (fun _ R s => (∃ es ep, s.heap.DictRaw d es ep) ∧ R (.ok (.ret (.ref s.heap.objs.size))) { s with heap := s.heap.push { cls := .type "dict_values", data := .fields #[.ref d] } }) :=
  .of_wp fun A R s ⟨⟨es, ep, hm⟩, q⟩ => by
    unfold Builtin.«dict.values»
    refine wpAny_bind ?_
    unfold Builtin.Dict.noArgs
    refine wpAny_bind (wpAny_notOrdered_dict hm.typeIs (wpAny_pure ?_))
    show wpAny _ _ (Builtin.Dict.showsAll d >>= _) _ _ s
    unfold Builtin.Dict.showsAll
    rw [if_neg (by rw [hd]; exact Bool.false_ne_true)]
    exact wpAny_bind (wpAny_pure (wpAny_bind (wpAny_newObj_type (wpAny_pure ⟨_, rfl, q⟩))))
end
section
variable {X : Cx}
theorem call_lenF : CallR X (.builtin "len") (fun xs H Q => ∃ d kvs, xs = [V.ref d] ∧ DF X.w H d kvs ∧ Q (.int kvs.length) H) := by
  intro pins s σ H xs us Q I r h
  obtain ⟨d, kvs, rfl, hd, q⟩ := h
  obtain ⟨u, rfl, rx⟩ := vals1 r
  cases rx
  obtain ⟨od, u, es, ep, _, ho, hx, hdt, hm, hE⟩ := hd.raw I.hok
  refine len_raw hm ⟨od, ho, hx, hdt⟩ (by rw [← hE.len]; exact hE.lt) fun t s' e => ?_
  subst e
  exact ⟨.int kvs.length, H, I.tok _, ⟨_, by rw [hE.len]⟩, q⟩
def rIsiF (w : World) (K : PySem.W.Frag) : List V → Hp → VK → Prop := fun xs H Q => ∃ (d : Addr) (kvs : List Kvv) (T : String) (b : Bool), xs = [.ref d, .ty T] ∧ DF w H d kvs ∧ kitB "dict" T = some b ∧ Q (.bl b) H
theorem call_isiF : CallR X (.builtin "isinstance") (rIsiF X.w X.K) := by
  intro pins s σ H xs us Q I r h
  obtain ⟨d, kvs, T, b, rfl, hd, hk, q⟩ := h
  obtain ⟨u1, u2, rfl, r1, r2⟩ := vals2 r
  cases (show u1 = Value.ref d from r1)
  cases (show u2 = Value.type T from r2)
  obtain ⟨od, u, es, ep, _, ho, hx, hdt, hm, hE⟩ := hd.raw I.hok
  exact PySem.W.kia_one (PySem.W.kitx_dict) I.kIn ⟨od, ho, hx.1⟩ (kit_ty hk) (fun z => nomatch z) fun tk => ⟨.bl b, H, I.tok tk, rfl, q⟩
/-- k in d -/
theorem op_inF (hu : X.A.units + 9 < cLine) : OpR X (compareOp .In) (fun x y H Q => ∃ (d : Addr) (kvs : List Kvv) (k : NestedKey), y = .ref d ∧ DF X.w H d kvs ∧ KeyV H k x ∧ k.depth ≤ 8 ∧ Q (.bl (decide (k ∈ kvs.map (·.1)))) H) := by
  intro pins s σ H x y v u Q I rx ry h
  obtain ⟨d, kvs, k, rfl, hd, hk, h8, q⟩ := h
  cases (show u = Value.ref d from ry)
  obtain ⟨od, hu', es, ep, _, ho, hx, hdt, hm, hE⟩ := hd.raw I.hok
  show wpAny _ _ (do return Value.bool (← contains (.ref d) v)) _ _ s
  exact wpAny_bind (contains_any hu (hk.is I rx) h8 hm ho hx hdt (hE.ks I) (wpAny_pure ⟨.bl (decide (k ∈ kvs.map (fun x : Kvv => x.1))), H, I.tok _, rfl, q⟩))
end
/-! walks -/
def ItkF (w : World) (d : Addr) (od : Obj) (kvs : List Kvv) : It :=
  ⟨fun i H => (∃ u, H d = some (.frz od u)) ∧ DF w H d kvs ∧ i < kvs.length, fun i H x H' => H' = H ∧ ∃ k v, kvs[i]? = some (k, x, v), fun i H => (∃ u, H d = some (.frz od u)) ∧ DF w H d kvs ∧ kvs.length ≤ i⟩
def ItvF (w : World) (d : Addr) (od : Obj) (kvs : List Kvv) : It :=
  ⟨fun i H => (∃ u, H d = some (.frz od u)) ∧ DF w H d kvs ∧ i < kvs.length, fun i H x H' => H' = H ∧ ∃ k v, kvs[i]? = some (k, v, x), fun i H => (∃ u, H d = some (.frz od u)) ∧ DF w H d kvs ∧ kvs.length ≤ i⟩
section
variable {P : Program} {w : World} {K : PySem.W.Frag} {tg : Expr} {d : Addr} {o : Obj} {es : Array DictEntry} {ep : Nat}
theorem df_at {X : Cx} {pins : List (Addr × Obj)} {σ : L2.St} {H : Hp} {s : Shared} {kvs : List Kvv} (I : Inv X pins σ H s) (h1 : ∃ u, H d = some (.frz o u)) (h2 : DF X.w H d kvs) (hod : o.data = .dict es ep) : s.heap.get? d = some o ∧ o.ExactDict ∧ (d == sysModules) = false ∧ Ents X.w H kvs es := by
  obtain ⟨u, h1⟩ := h1
  obtain ⟨od, u2, es2, ep2, g1, ho, hx, hdt, hm, hE⟩ := h2.raw I.hok
  rw [h1] at g1
  cases g1
  obtain ⟨rfl, rfl⟩ := dict_ep hod hdt
  exact ⟨ho, hx, hm, hE⟩
theorem turn_keysF {kvs : List Kvv} (it : Addr) (hod : o.data = .dict es ep) : Turn P w K tg (ItkF w d o kvs) [it] it (fun i h => h.IsKeyIter it d i kvs.length ep) where
  mem := by simp
  obj := fun i h st b hb => by
    obtain rfl : b = it := by simpa using hb
    obtain ⟨oi, e, c, dd⟩ := st
    exact ⟨oi, e, fun v z => by rw [dd] at z; cases z⟩
  keep := fun i h h' st k => st.at fun oi e => k it (by simp) oi e
  item := by
    intro X hP hw hK hc i pins s σ H E I hf st hg
    subst hP hw hK
    obtain ⟨h1, h2, hi⟩ := hg
    obtain ⟨f0, f1, f2, f3, f4, f5⟩ := hf it (by simp)
    obtain ⟨hgd, hx, hm, hE⟩ := df_at I h1 h2 hod
    obtain ⟨⟨k, kv, v⟩, hkv⟩ : ∃ p, kvs[i]? = some p := ⟨kvs[i], List.getElem?_eq_getElem hi⟩
    obtain ⟨en, hen, hev⟩ := hE.get hkv
    refine next_key_item st hgd hod hE.len.symm hen fun h' st' sb => ?_
    have I1 : Inv X pins σ H { s with heap := h' } := I.turned (t' := s.toks) (fun b ob hb e => (sb.2 b hb).trans e) f0 f1 f3 f4 f5
    obtain ⟨oi, e, c, dd⟩ := id st'
    exact ⟨en.key, rfl, go_of (s := { s with heap := h' }) e c dd (by decide) ⟨kv, H, I1, hev.2.1, ⟨rfl, k, v, hkv⟩, st', fun b hb => (hf b hb).1⟩⟩
  done := by
    intro X hP hw hK hc i pins s σ H E I hf st hg
    subst hP hw hK
    obtain ⟨h1, h2, hi⟩ := hg
    obtain ⟨f0, f1, f2, f3, f4, f5⟩ := hf it (by simp)
    obtain ⟨hgd, hx, hm, hE⟩ := df_at I h1 h2 hod
    exact next_key_end (I.ok.hd hc) st hgd hod hE.len.symm hi fun h' eb => ⟨rfl, I.turned (t' := s.toks) (fun b ob hb e => eb b ob hb e) f0 f1 f3 f4 f5⟩
  self := fun A i s Q E st h => wpAny_pyIter_keyiter st h
theorem turn_valsF {kvs : List Kvv} (it : Addr) (hod : o.data = .dict es ep) : Turn P w K tg (ItvF w d o kvs) [it] it (fun i h => h.IsValIter it d i kvs.length ep) where
  mem := by simp
  obj := fun i h st b hb => by
    obtain rfl : b = it := by simpa using hb
    obtain ⟨oi, e, c, dd⟩ := st
    exact ⟨oi, e, fun v z => by rw [dd] at z; cases z⟩
  keep := fun i h h' st k => st.at fun oi e => k it (by simp) oi e
  item := by
    intro X hP hw hK hc i pins s σ H E I hf st hg
    subst hP hw hK
    obtain ⟨h1, h2, hi⟩ := hg
    obtain ⟨f0, f1, f2, f3, f4, f5⟩ := hf it (by simp)
    obtain ⟨hgd, hx, hm, hE⟩ := df_at I h1 h2 hod
    obtain ⟨⟨k, kv, v⟩, hkv⟩ : ∃ p, kvs[i]? = some p := ⟨kvs[i], List.getElem?_eq_getElem hi⟩
    obtain ⟨en, hen, hev⟩ := hE.get hkv
    have hlt : i < es.size := by rw [← hE.len]; exact hi
    rw [hE.len] at st
    refine wpAny_pyNext_values_item_raw st ⟨o, hgd, hx, hod⟩ hlt fun h' st' sb => ?_
    have I1 : Inv X pins σ H { s with heap := h' } := I.turned (t' := s.toks) (fun b ob hb e => (sb.2 b hb).trans e) f0 f1 f3 f4 f5
    obtain ⟨oi, e, c, dd⟩ := id st'
    have een : es[i] = en := by rw [Array.getElem?_eq_getElem hlt] at hen; exact Option.some.inj hen
    refine ⟨es[i].val, rfl, go_of (s := { s with heap := h' }) e c dd (by decide) ⟨v, H, I1, by rw [een]; exact hev.2.2.2.2, ⟨rfl, k, kv, hkv⟩, ?_, fun b hb => (hf b hb).1⟩⟩
    show h'.IsValIter it d (i + 1) kvs.length _
    rw [hE.len]; exact st'
  done := by
    intro X hP hw hK hc i pins s σ H E I hf st hg
    subst hP hw hK
    obtain ⟨h1, h2, hi⟩ := hg
    obtain ⟨f0, f1, f2, f3, f4, f5⟩ := hf it (by simp)
    obtain ⟨hgd, hx, hm, hE⟩ := df_at I h1 h2 hod
    rw [hE.len] at st
    exact wpAny_pyNext_values_end_raw (I.ok.hd hc) st ⟨o, hgd, hx, hod⟩ (by rw [← hE.len]; exact hi) fun h' eb => ⟨rfl, I.turned (t' := s.toks) (fun b ob hb e => eb b ob hb e) f0 f1 f3 f4 f5⟩
  self := fun A i s Q E st h => wpAny_pyIter_valiter st h
end
def iKeysF (w : World) (td : TE) : TI := fun σ H R => td σ H fun x H1 => ∃ d kvs, x = .ref d ∧ DF w H1 d kvs ∧ ∀ od u, H1 d = some (.frz od u) → R (ItkF w d od kvs) H1
def iValsF (w : World) (td : TE) : TI := fun σ H R => td σ H fun x H1 => ∃ d kvs, x = .ref d ∧ DF w H1 d kvs ∧ ∀ od u, H1 d = some (.frz od u) → R (ItvF w d od kvs) H1
section
variable {X : Cx} {tg e : Expr} {td : TE} {apos cpos : Pos}
theorem pi_keysF (he : PE X e td) : PI X tg e (iKeysF X.w td) := by
  refine ⟨fun pins s σ H R I h => ?_⟩
  refine thn (he.run pins s σ H _ I h) fun u s1 ⟨x, H1, I1, rx, d, kvs, ex, hd, q⟩ => ?_
  subst ex
  obtain rfl : u = Value.ref d := rx
  obtain ⟨od, u2, es, ep, hf, ho, hx, hdt, hm, hE⟩ := hd.raw I1.hok
  refine iter_keys hm ho hx hdt (pi_one (tk := s1.toks) I1 _ (turn_keysF _ hdt) ⟨_, Heap.get?_push_size _ rfl, rfl, ?_⟩ (q od u2 hf))
  rw [hE.len]; rfl
theorem pi_valsF (he : PE X e td) (hbase : attributeBase e "values" X.env (eval e X.env) = eval e X.env := by rfl) (hline : (apos.endLine == cpos.line) = true := by rfl) : PI X tg (.Call (.Attribute e "values" apos) [] [] cpos) (iValsF X.w td) := by
  refine ⟨fun pins s σ H R I h => ?_⟩
  refine wpAny_Call_method (T := "dict") (id := "dict.values") hbase rfl hline F.plainAttrs_dict F.slot_dict_values F.type_dict_values (thn (he.run pins s σ H _ I h) fun u s1 ⟨x, H1, I1, rx, d, kvs, ex, hd, q⟩ => ?_)
  subst ex
  obtain rfl : u = Value.ref d := rx
  obtain ⟨od, u2, es, ep, hf, ho, hx, hdt, hm, hE⟩ := hd.raw I1.hok
  have raw : s1.heap.DictRaw d es ep := ⟨od, ho, hx, hdt⟩
  refine ⟨raw.typeIs, (fun b z => by cases z; exact ⟨od, ho, hx.2.1⟩), ?_⟩
  have I2 : Inv X pins σ H1 { s1 with heap := s1.heap.push { cls := .type "dict_values", data := .fields #[.ref d] } } := I1.kept (t' := s1.toks) fun b ob q => Heap.get?_push_of_some _ q
  have fin : wpAny (model X.prog X.w) X.A (pyIter (.ref s1.heap.objs.size)) (PIE X pins σ tg R) X.xe { s1 with heap := s1.heap.push { cls := .type "dict_values", data := .fields #[.ref d] } } := by
    refine wpAny_pyIter_values_raw (d := d) (es := es) (ep := ep) ⟨_, Heap.get?_push_size _ rfl, rfl, rfl⟩ (raw.push _) (pi_one (tk := s1.toks) I2 _ (turn_valsF _ hdt) ⟨_, Heap.get?_push_size _ rfl, rfl, ?_⟩ (q od u2 hf))
    rw [hE.len]; rfl
  show wpAny _ _ (callWith cpos (.builtin "dict.values") [.ref d] [] []) _ X.xe s1
  exact method_meetsIn F.slot_dict_values F.entry_dict_values rfl (PySem.evalArgs_none ⟨rfl, raw.typeIs, F.args_dict_values_1 _, _, meets_vals_raw hm, ⟨⟨es, ep, raw⟩, fin⟩⟩)
/-- walks over such a dict -/
theorem walk_keysF {w : World} {d : Addr} {od : Obj} {kvs : List Kvv} : Walk (ItkF w d od kvs) kvs.length (fun H => (∃ u, H d = some (.frz od u)) ∧ DF w H d kvs) (fun i H x H' => H' = H ∧ ∃ k v, kvs[i]? = some (k, x, v)) :=
  ⟨fun i H hi h => ⟨h.1, h.2, hi⟩, fun H h => ⟨h.1, h.2, Nat.le_refl _⟩, fun i H x H' hi h y => y⟩
theorem walk_valsF {w : World} {d : Addr} {od : Obj} {kvs : List Kvv} : Walk (ItvF w d od kvs) kvs.length (fun H => (∃ u, H d = some (.frz od u)) ∧ DF w H d kvs) (fun i H x H' => H' = H ∧ ∃ k v, kvs[i]? = some (k, v, x)) :=
  ⟨fun i H hi h => ⟨h.1, h.2, hi⟩, fun H h => ⟨h.1, h.2, Nat.le_refl _⟩, fun i H x H' hi h y => y⟩
/-- list(d): the keys as they stand -/
theorem call_listF (hc : X.calm = true) : CallR X (.type "list") (fun xs H Q => ∃ d kvs, xs = [V.ref d] ∧ DF X.w H d kvs ∧ ∀ p, H p = none → Q (.ref p) (upd H p (.lst (kvs.map fun x => x.2.1)))) := by
  intro pins s σ H xs us Q I r h
  obtain ⟨d, kvs, rfl, hd, q⟩ := h
  obtain ⟨u, rfl, rx⟩ := r.one
  cases rx
  obtain ⟨od, u2, es, ep, hf, ho, hx, hdt, hm, hE⟩ := hd.raw I.hok
  refine PySem.W.kdl_call (kdl_raw hm hx hdt) (I.ok.hd hc) ho (by have := hE.lt; rw [hE.len] at this; exact this) fun h' tk acc' c' kp e it => ?_
  have rv : Vals (kvs.map fun x => x.2.1) acc'.toList := by
    have hl : kvs.length = acc'.toList.length := by rw [Array.length_toList (xs := acc'), it.1]; exact hE.len
    have key : ∀ (j : Nat) (x : Kvv) (v : Value), kvs[j]? = some x → acc'.toList[j]? = some v → RelV x.2.1 v := fun j x v hj hv => by
      obtain ⟨en, hen, hev⟩ := hE.get hj
      obtain ⟨en2, g1, g2⟩ := it.2 j v (by rw [← hv, Array.getElem?_toList])
      rw [hen] at g1
      cases g1
      rw [g2]; exact hev.2.1
    clear it e hE
    revert hl key
    generalize acc'.toList = l
    clear q hd hf
    induction kvs generalizing l with
    | nil => intro hl _; cases l with | nil => exact .nil | cons _ _ => simp at hl
    | cons x r ih =>
      intro hl key
      cases l with
      | nil => simp at hl
      | cons v l => exact .cons (key 0 x v rfl rfl) (ih l (by simpa using hl) fun j y v hj hv => key (j + 1) y v (by simpa using hj) (by simpa using hv))
  refine ⟨.ref s.heap.objs.size, _, I.laid (t' := tk) (o := .lst (kvs.map fun x => x.2.1)) kp (Nat.le_refl _) ?_, rfl, q _ (I.hok.fresh (Nat.le_refl _))⟩
  exact ⟨by rw [List.length_map]; exact hE.lt, acc'.toList, c', rv, by rw [Array.toArray_toList]; exact e⟩
end
end My

set_option linter.all false
namespace Hs
def rot (p q t : Nat) : Nat := (t * p) % (p * q) + t / q
def unrot (p q u : Nat) : Nat := (u % p) * q + u / p
theorem unrot_rot {p q t : Nat} (hp : 0 < p) (hq : 0 < q) (h : t < p * q) : rot p q t < p * q ∧ unrot p q (rot p q t) = t := by
  have ha : t / q < p := Nat.div_lt_of_lt_mul (by rw [Nat.mul_comm]; exact h)
  have hb : t % q < q := Nat.mod_lt _ hq
  have e : rot p q t = t % q * p + t / q := by
    unfold rot
    congr 1
    have : t * p = (t % q) * p + (p * q) * (t / q) := by
      conv => lhs; rw [← Nat.mod_add_div t q]
      rw [Nat.add_mul]
      congr 1
      ac_rfl
    rw [this, Nat.add_mul_mod_self_left]
    exact Nat.mod_eq_of_lt (by rw [Nat.mul_comm p q]; exact Nat.mul_lt_mul_of_pos_right hb hp)
  rw [e]
  refine ⟨?_, ?_⟩
  · have : t % q * p + p ≤ q * p := by
      have := Nat.mul_le_mul_right p (show t % q + 1 ≤ q by omega)
      rwa [Nat.add_mul, Nat.one_mul] at this
    rw [Nat.mul_comm p q]
    omega
  · unfold unrot
    rw [Nat.mul_comm (t % q) p, Nat.mul_add_mod, Nat.mod_eq_of_lt ha, Nat.mul_add_div hp, Nat.div_eq_of_lt ha, Nat.add_zero, Nat.mul_comm]
    exact Nat.div_add_mod t q
theorem unmul {m p1 q1 c u : Nat} (e : p1 * q1 = c * m + 1) (h : u < m) : (u * p1 % m) * q1 % m = u := by
  rw [Nat.mod_mul_mod, Nat.mul_assoc, e, Nat.mul_add, Nat.mul_one, ← Nat.mul_assoc, Nat.add_comm, Nat.add_mul_mod_self_right]
  exact Nat.mod_eq_of_lt h
theorem unadd {m k v : Nat} (hk : k < m) (h : v < m) : ((v + k) % m + (m - k)) % m = v := by
  rcases Nat.lt_or_ge (v + k) m with c | c
  · rw [Nat.mod_eq_of_lt c, show v + k + (m - k) = v + m by omega, Nat.add_mod_right, Nat.mod_eq_of_lt h]
  · have e : (v + k) % m = v + k - m := by rw [Nat.mod_eq_sub_mod c]; exact Nat.mod_eq_of_lt (by omega)
    rw [e, show v + k - m + (m - k) = v by omega, Nat.mod_eq_of_lt h]
theorem lin {m A p2 a b : Nat} (h : (A + a * p2) % m = (A + b * p2) % m) (_ : a ≤ b) : m ∣ (b - a) * p2 := by
  have h2 := Nat.sub_mod_eq_zero_of_mod_eq h.symm
  rw [Nat.add_sub_add_left, ← Nat.sub_mul] at h2
  exact Nat.dvd_of_mod_eq_zero h2
def fin (m c0 hf c : Nat) : Int := if c = m - 1 then (c0 : Nat) else if c < hf then (c : Int) else (c : Int) - (m : Nat)
theorem fin_inj {m c0 hf c d : Nat} (h1 : hf ≤ m) (h2 : c0 < hf) (hc : c < m) (hd : d < m) (h : fin m c0 hf c = fin m c0 hf d) : c = d ∨ (c = m - 1 ∧ d = c0) ∨ (c = c0 ∧ d = m - 1) := by
  unfold fin at h
  split at h <;> (try split at h) <;> (try split at h) <;> (try split at h) <;> omega
theorem fin_ne {m c0 hf c : Nat} (h1 : hf ≤ m) (h2 : c0 < hf) (h3 : m ≤ 2 * hf) (h : c < m) : fin m c0 hf c ≠ -1 ∧ -(hf : Int) ≤ fin m c0 hf c ∧ fin m c0 hf c < (hf : Int) := by
  unfold fin
  split
  · omega
  · split <;> omega
section
variable {p q m p1 q1 cc kk c0 hf p2 r1 r2 : Nat}
def back (p q m q1 kk c : Nat) : Nat := unrot p q ((c + (m - kk)) % m * q1 % m)
def stp (p q m p1 kk t : Nat) : Nat := (rot p q t * p1 % m + kk) % m
theorem back_stp (hm : m = p * q) (hp : 0 < p) (hq : 0 < q) (e : p1 * q1 = cc * m + 1) (hk : kk < m) {t : Nat} (h : t < m) : back p q m q1 kk (stp p q m p1 kk t) = t := by
  subst hm
  obtain ⟨h1, h2⟩ := unrot_rot hp hq h
  have m0 : 0 < p * q := by omega
  unfold back stp
  rw [unadd hk (Nat.mod_lt _ m0), unmul e h1, h2]
theorem apart (hm : m = p * q) (hp : 0 < p) (hq : 0 < q) (e : p1 * q1 = cc * m + 1) (hk : kk < m) (h1 : hf ≤ m) (h2 : c0 < hf) (g : Nat.gcd m p2 = 1) (m200 : 200 ≤ m)
    (e1 : back p q m q1 kk (m - 1) = r1) (e2 : back p q m q1 kk c0 = r2) (n1 : ∀ d, d < 200 → (r1 + d * p2) % m ≠ r2) (n2 : ∀ d, d < 200 → (r2 + d * p2) % m ≠ r1) {A a b : Nat} (hab : a < b) (hb : b < 200) :
    fin m c0 hf (stp p q m p1 kk ((A + a * p2) % m)) ≠ fin m c0 hf (stp p q m p1 kk ((A + b * p2) % m)) := fun h => by
  have m0 : 0 < m := by omega
  have la : (A + a * p2) % m < m := Nat.mod_lt _ m0
  have lb : (A + b * p2) % m < m := Nat.mod_lt _ m0
  have ba := back_stp (p1 := p1) hm hp hq e hk la
  have bb := back_stp (p1 := p1) hm hp hq e hk lb
  have sa : stp p q m p1 kk ((A + a * p2) % m) < m := Nat.mod_lt _ m0
  have sb : stp p q m p1 kk ((A + b * p2) % m) < m := Nat.mod_lt _ m0
  have up : (A + b * p2) % m = ((A + a * p2) % m + (b - a) * p2) % m := by
    rw [Nat.mod_add_mod, Nat.add_assoc, ← Nat.add_mul, show a + (b - a) = b by omega]
  rcases fin_inj h1 h2 sa sb h with q | ⟨q1, q2⟩ | ⟨q1, q2⟩
  · rw [q, bb] at ba
    have dv := lin ba.symm (Nat.le_of_lt hab)
    have := Nat.Coprime.dvd_of_dvd_mul_right (show Nat.Coprime m p2 from g) dv
    have := Nat.le_of_dvd (by omega) this
    omega
  · rw [q1, e1] at ba; rw [q2, e2] at bb
    rw [← ba, ← bb] at up
    exact n1 (b - a) (by omega) up.symm
  · rw [q1, e2] at ba; rw [q2, e1] at bb
    rw [← ba, ← bb] at up
    exact n2 (b - a) (by omega) up.symm
end
theorem apart64 {A a b : Nat} (hab : a < b) (hb : b < 200) : fin 18446744073709551616 1546275796 9223372036854775808 (stp 2147483648 8589934592 18446744073709551616 11400714785074694791 2870177450013471924 ((A + a * 14029467366897019727) % 18446744073709551616)) ≠ fin 18446744073709551616 1546275796 9223372036854775808 (stp 2147483648 8589934592 18446744073709551616 11400714785074694791 2870177450013471924 ((A + b * 14029467366897019727) % 18446744073709551616)) :=
  apart (q1 := 614540362697595703) (cc := 379806830464837242) (r1 := 9148689060682678900) (r2 := 15881292906973731817) (by decide +kernel) (by decide +kernel) (by decide +kernel) (by decide +kernel) (by decide +kernel) (by decide +kernel) (by decide +kernel) (by decide +kernel) (by decide +kernel) (by decide +kernel) (by decide +kernel) (by decide +kernel) (by decide +kernel) hab hb
end Hs

namespace My
open PySem
namespace Hs
def sT (m p1 p2 e1 e2 : Nat) (c : Nat) (h : Int) : Nat := ((c + (h % (m : Int)).toNat * p2) % m * e1 % m + (c + (h % (m : Int)).toNat * p2) % m / e2) * p1 % m
def fF (m hf : Nat) (c0 : Int) (c : Nat) : Int := if c == m - 1 then c0 else if c < hf then c else (c : Int) - m
theorem tH_eq (l : List Int) : Builtin.Tuple.tupleHashOf l = fF (2 ^ 64) (2 ^ 63) 1546275796 ((l.foldl (sT (2 ^ 64) 11400714785074694791 14029467366897019727 (2 ^ 31) (2 ^ 33)) 2870177450012600261 + (l.length ^^^ (2870177450012600261 ^^^ 3527539))) % 2 ^ 64) := rfl
theorem fF_fin (m hf c0 c : Nat) : fF m hf (c0 : Nat) c = _root_.Hs.fin m c0 hf c := by
  unfold fF _root_.Hs.fin
  by_cases h : c = m - 1
  · rw [if_pos h, if_pos (by rw [h]; exact beq_self_eq_true _)]
  · rw [if_neg h, if_neg fun q => h (eq_of_beq q)]
theorem two (m p1 p2 p5 p q kk hf c0 : Nat) (hm : m = p * q) (h : Int) (a : Nat) (ha : a < m) : fF m hf (c0 : Nat) (([h, (a : Int)].foldl (sT m p1 p2 p q) p5 + kk) % m) = _root_.Hs.fin m c0 hf (_root_.Hs.stp p q m p1 kk ((sT m p1 p2 p q p5 h + a * p2) % m)) := by
  have ea : ((a : Int) % (m : Int)).toNat = a := by
    rw [Int.emod_eq_of_lt (by omega) (by omega)]; rfl
  rw [fF_fin]
  congr 1
  rw [List.foldl_cons, List.foldl_cons, List.foldl_nil]
  generalize sT m p1 p2 p q p5 h = A
  unfold sT _root_.Hs.stp _root_.Hs.rot
  rw [ea, hm]
theorem apartT (h : Int) {a b : Nat} (hab : a < b) (hb : b < 200) : Builtin.Tuple.tupleHashOf [h, (a : Int)] ≠ Builtin.Tuple.tupleHashOf [h, (b : Int)] := by
  have e0 : (1546275796 : Int) = ((1546275796 : Nat) : Int) := rfl
  have m200 : 200 ≤ 2 ^ 64 := by decide +kernel
  have hm : (2 : Nat) ^ 64 = 2 ^ 31 * 2 ^ 33 := by decide +kernel
  rw [tH_eq, tH_eq, e0, show [h, (a : Int)].length = 2 from rfl, show [h, (b : Int)].length = 2 from rfl]
  rw [two _ _ _ _ _ _ _ _ _ hm h a (by omega), two _ _ _ _ _ _ _ _ _ hm h b (by omega)]
  exact _root_.Hs.apart (q1 := 614540362697595703) (cc := 379806830464837242) (r1 := 9148689060682678900) (r2 := 15881292906973731817) hm (by decide +kernel) (by decide +kernel) (by decide +kernel) (by decide +kernel) (by decide +kernel) (by decide +kernel) (by decide +kernel) m200 (by decide +kernel) (by decide +kernel) (by decide +kernel) (by decide +kernel) hab hb
theorem tH_in (h : Int) {a : Nat} (ha : a < 200) : Builtin.Tuple.tupleHashOf [h, (a : Int)] ≠ -1 ∧ -((2 ^ 63 : Nat) : Int) ≤ Builtin.Tuple.tupleHashOf [h, (a : Int)] ∧ Builtin.Tuple.tupleHashOf [h, (a : Int)] < ((2 ^ 63 : Nat) : Int) := by
  have e0 : (1546275796 : Int) = ((1546275796 : Nat) : Int) := rfl
  have m200 : 200 ≤ 2 ^ 64 := by decide +kernel
  have hm : (2 : Nat) ^ 64 = 2 ^ 31 * 2 ^ 33 := by decide +kernel
  rw [tH_eq, e0, show [h, (a : Int)].length = 2 from rfl]
  rw [two _ _ _ _ _ _ _ _ _ hm h a (by omega)]
  exact _root_.Hs.fin_ne (by decide +kernel) (by decide +kernel) (by decide +kernel) (Nat.mod_lt _ (by decide +kernel))
theorem red_id {i : Int} (h1 : i ≠ -1) (h2 : -((2 ^ 63 : Nat) : Int) ≤ i) (h3 : i < ((2 ^ 63 : Nat) : Int)) : reduceHash i = i := by
  unfold reduceHash
  have c : ((2 ^ 63 : Nat) : Int) = 2 ^ 63 := by rfl
  rw [c] at h2 h3
  rw [if_pos (by simp only [decide_eq_true h2, decide_eq_true h3]; rfl), if_neg (by simpa using h1)]
theorem hashInt_small {a : Nat} (ha : a < 200) : hashInt (a : Int) = (a : Int) := by
  have e : ((a : Int).natAbs % (2 ^ 61 - 1 : Nat)) = a := by
    rw [Int.natAbs_natCast]; exact Nat.mod_eq_of_lt (Nat.lt_of_lt_of_le ha (by decide +kernel))
  have n0 : ¬ ((a : Int) < 0) := by omega
  have n1 : ¬ (((a : Int) == -1) = true) := by
    intro z
    have := eq_of_beq z
    omega
  have r : rawHash (a : Int) = (a : Int) := by
    unfold rawHash
    simp only [if_neg n0, ← Int.natCast_emod, e]
    rw [if_neg n1]
  unfold hashInt
  rw [r, if_neg n1]
end Hs
end My

set_option linter.all false
namespace Hp
def mrg : Nat → List Nat → List Nat → List Nat
  | 0, xs, ys => xs ++ ys
  | _ + 1, [], ys => ys
  | _ + 1, x :: xs, [] => x :: xs
  | n + 1, x :: xs, y :: ys => if x ≤ y then x :: mrg n xs (y :: ys) else y :: mrg n (x :: xs) ys
theorem mrg_perm : ∀ (n : Nat) (xs ys : List Nat), (mrg n xs ys).Perm (xs ++ ys)
  | 0, xs, ys => .refl _
  | _ + 1, [], ys => .refl _
  | _ + 1, x :: xs, [] => by show (x :: xs).Perm _; rw [List.append_nil]
  | n + 1, x :: xs, y :: ys => by
    unfold mrg
    split
    · exact (mrg_perm n xs (y :: ys)).cons x
    · exact ((mrg_perm n (x :: xs) ys).cons y).trans List.perm_middle.symm
def srt : Nat → List Nat → List Nat
  | 0, l => l
  | n + 1, l => mrg l.length (srt n (l.take (l.length / 2))) (srt n (l.drop (l.length / 2)))
theorem srt_perm : ∀ (n : Nat) (l : List Nat), (srt n l).Perm l
  | 0, l => .refl _
  | n + 1, l => by
    unfold srt
    refine (mrg_perm _ _ _).trans (((srt_perm n _).append (srt_perm n _)).trans ?_)
    rw [List.take_append_drop]
def gaps (K : Nat) : List Nat → Bool
  | [] => true
  | [_] => true
  | x :: y :: r => Nat.blt (x + K) y && gaps K (y :: r)
theorem gaps_pw {K : Nat} : ∀ {l : List Nat}, gaps K l = true → l.Pairwise fun x y => x + K < y
  | [], _ => .nil
  | [_], _ => List.pairwise_singleton _ _
  | x :: y :: r, h => by
    unfold gaps at h
    rw [Bool.and_eq_true] at h
    have h1 : x + K < y := Nat.le_of_ble_eq_true h.1
    have ih := gaps_pw h.2
    refine .cons (fun z hz => ?_) ih
    rcases List.mem_cons.mp hz with rfl | hz
    · exact h1
    · have := List.rel_of_pairwise_cons ih hz
      omega
theorem far {K n : Nat} {l : List Nat} (h : gaps K (srt n l) = true) : l.Pairwise fun x y => x + K < y ∨ y + K < x :=
  (srt_perm n l).pairwise ((gaps_pw h).imp Or.inl) fun h => h.symm
def gA (m p1 p2 p5 iv a : Nat) : Nat := (((p5 + a * p2) % m * 2147483648 % m + (p5 + a * p2) % m / 8589934592) * p1 % m) * iv % m
/-- the state of the hash behind the first number, told by what the second one adds -/
def gs (m p1 p2 p5 iv k : Nat) : List Nat := (List.range k).map (gA m p1 p2 p5 iv)
def clear (m s1 K : Nat) (l : List Nat) : Bool := l.all fun g => Nat.blt (g + K) m && (Nat.blt s1 g || Nat.blt (g + K) s1)
theorem gA_add {m p1 p2 p5 iv c a b : Nat} (e : p2 * iv = c * m + 1) (A : Nat) (hA : gA m p1 p2 p5 iv a = A * iv % m) : ((A + b * p2) % m) * iv % m = (gA m p1 p2 p5 iv a + b) % m := by
  rw [hA, Nat.mod_mul_mod, Nat.mod_add_mod, Nat.add_mul, Nat.mul_assoc, e, Nat.mul_add, Nat.mul_one, ← Nat.mul_assoc, ← Nat.add_assoc, Nat.add_right_comm, Nat.add_mul_mod_self_right]
def A0 (m p1 p2 p5 a : Nat) : Nat := ((p5 + a * p2) % m * 2147483648 % m + (p5 + a * p2) % m / 8589934592) * p1 % m
theorem gs_at {m p1 p2 p5 iv k x : Nat} (h : x < (gs m p1 p2 p5 iv k).length) : (gs m p1 p2 p5 iv k)[x] = gA m p1 p2 p5 iv x := by simp [gs]
theorem pairs {m p1 p2 p5 iv c r1 s1 K : Nat} (e : p2 * iv = c * m + 1) (er : r1 * iv % m = s1) (f : gaps K (srt 12 (gs m p1 p2 p5 iv (K + 1))) = true) (cl : clear m s1 K (gs m p1 p2 p5 iv (K + 1)) = true) {a b a' b' : Nat} (ha : a ≤ K) (hb : b ≤ K) (ha' : a' ≤ K) (hb' : b' ≤ K) :
    ((A0 m p1 p2 p5 a + b * p2) % m = (A0 m p1 p2 p5 a' + b' * p2) % m → a = a' ∧ b = b') ∧ (A0 m p1 p2 p5 a + b * p2) % m ≠ r1 := by
  have pw := far f
  have inn : ∀ x, x ≤ K → gA m p1 p2 p5 iv x + K < m ∧ (s1 < gA m p1 p2 p5 iv x ∨ gA m p1 p2 p5 iv x + K < s1) := fun x hx => by
    have := List.all_eq_true.mp cl (gA m p1 p2 p5 iv x) (List.mem_map.mpr ⟨x, List.mem_range.mpr (by omega), rfl⟩)
    rw [Bool.and_eq_true, Bool.or_eq_true] at this
    exact ⟨Nat.le_of_ble_eq_true this.1, this.2.imp Nat.le_of_ble_eq_true Nat.le_of_ble_eq_true⟩
  have two : ∀ x y, x < y → y ≤ K → gA m p1 p2 p5 iv x + K < gA m p1 p2 p5 iv y ∨ gA m p1 p2 p5 iv y + K < gA m p1 p2 p5 iv x := fun x y hxy hy => by
    have lx : x < (gs m p1 p2 p5 iv (K + 1)).length := by unfold gs; rw [List.length_map, List.length_range]; omega
    have ly : y < (gs m p1 p2 p5 iv (K + 1)).length := by unfold gs; rw [List.length_map, List.length_range]; omega
    have := List.pairwise_iff_getElem.mp pw x y lx ly hxy
    rw [gs_at, gs_at] at this
    exact this
  have h1 := gA_add (p1 := p1) (p5 := p5) (a := a) (b := b) e (A0 m p1 p2 p5 a) rfl
  have h2 := gA_add (p1 := p1) (p5 := p5) (a := a') (b := b') e (A0 m p1 p2 p5 a') rfl
  have i1 := inn a ha
  have i2 := inn a' ha'
  rw [Nat.mod_eq_of_lt (show gA m p1 p2 p5 iv a + b < m by omega)] at h1
  rw [Nat.mod_eq_of_lt (show gA m p1 p2 p5 iv a' + b' < m by omega)] at h2
  refine ⟨fun h => ?_, fun h => ?_⟩
  · rw [h, h2] at h1
    rcases Nat.lt_trichotomy a a' with c | c | c
    · have := two a a' c ha'; omega
    · subst c; exact ⟨rfl, by omega⟩
    · have := two a' a c ha; omega
  · rw [h, er] at h1
    omega
theorem gsFar : gaps 3600 (srt 12 (gs 18446744073709551616 11400714785074694791 14029467366897019727 2870177450012600261 839798700976720815 3601)) = true := by decide +kernel
theorem gsClear : clear 18446744073709551616 15746002411462551884 3600 (gs 18446744073709551616 11400714785074694791 14029467366897019727 2870177450012600261 839798700976720815 3601) = true := by decide +kernel
theorem pairs64 {a b a' b' : Nat} (ha : a ≤ 3600) (hb : b ≤ 3600) (ha' : a' ≤ 3600) (hb' : b' ≤ 3600) :
    ((A0 18446744073709551616 11400714785074694791 14029467366897019727 2870177450012600261 a + b * 14029467366897019727) % 18446744073709551616 = (A0 18446744073709551616 11400714785074694791 14029467366897019727 2870177450012600261 a' + b' * 14029467366897019727) % 18446744073709551616 → a = a' ∧ b = b') ∧ (A0 18446744073709551616 11400714785074694791 14029467366897019727 2870177450012600261 a + b * 14029467366897019727) % 18446744073709551616 ≠ 9148689060682678900 :=
  pairs (iv := 839798700976720815) (c := 638699622168397319) (s1 := 15746002411462551884) (by decide +kernel) (by decide +kernel) gsFar gsClear ha hb ha' hb'
end Hp

namespace Hs
section
variable {p q m p1 q1 cc kk c0 hf r1 : Nat}
theorem apart2 (hm : m = p * q) (hp : 0 < p) (hq : 0 < q) (e : p1 * q1 = cc * m + 1) (hk : kk < m) (h1 : hf ≤ m) (h2 : c0 < hf) (m0 : 0 < m) (e1 : back p q m q1 kk (m - 1) = r1) {t t' : Nat} (lt : t < m) (lt' : t' < m) (n : t ≠ r1) (n' : t' ≠ r1)
    (h : fin m c0 hf (stp p q m p1 kk t) = fin m c0 hf (stp p q m p1 kk t')) : t = t' := by
  have ba := back_stp (p1 := p1) hm hp hq e hk lt
  have bb := back_stp (p1 := p1) hm hp hq e hk lt'
  have sa : stp p q m p1 kk t < m := Nat.mod_lt _ m0
  have sb : stp p q m p1 kk t' < m := Nat.mod_lt _ m0
  rcases fin_inj h1 h2 sa sb h with z | ⟨z1, _⟩ | ⟨_, z2⟩
  · rw [z, bb] at ba; exact ba.symm
  · rw [z1, e1] at ba; exact absurd ba.symm n
  · rw [z2, e1] at bb; exact absurd bb.symm n'
end
end Hs
namespace My
open PySem
namespace Hs
theorem sT_A0 (m p1 p2 p5 a : Nat) (ha : a < m) : sT m p1 p2 2147483648 8589934592 p5 (a : Int) = Hp.A0 m p1 p2 p5 a := by
  have ea : ((a : Int) % (m : Int)).toNat = a := by
    rw [Int.emod_eq_of_lt (by omega) (by omega)]; rfl
  unfold sT Hp.A0
  rw [ea]
/-- pairs of whole numbers up to 3600 have hashes of their own -/
theorem apartP {a b a' b' : Nat} (ha : a ≤ 3600) (hb : b ≤ 3600) (ha' : a' ≤ 3600) (hb' : b' ≤ 3600) (h : Builtin.Tuple.tupleHashOf [(a : Int), (b : Int)] = Builtin.Tuple.tupleHashOf [(a' : Int), (b' : Int)]) : a = a' ∧ b = b' := by
  have e0 : (1546275796 : Int) = ((1546275796 : Nat) : Int) := rfl
  have big : 3600 < 2 ^ 64 := by decide +kernel
  have m0 : 0 < 2 ^ 64 := by decide +kernel
  have hm : (2 : Nat) ^ 64 = 2 ^ 31 * 2 ^ 33 := by decide +kernel
  rw [tH_eq, tH_eq, e0, show [(a : Int), (b : Int)].length = 2 from rfl, show [(a' : Int), (b' : Int)].length = 2 from rfl] at h
  rw [two _ _ _ _ _ _ _ _ _ hm (a : Int) b (by omega), two _ _ _ _ _ _ _ _ _ hm (a' : Int) b' (by omega)] at h
  have k1 := Hp.pairs64 ha hb ha' hb'
  have k2 := Hp.pairs64 ha' hb' ha hb
  rw [← sT_A0 _ _ _ _ a (by omega), ← sT_A0 _ _ _ _ a' (by omega)] at k1 k2
  have e64 : (2 : Nat) ^ 64 = 18446744073709551616 := by decide +kernel
  have e31 : (2 : Nat) ^ 31 = 2147483648 := by decide +kernel
  have e33 : (2 : Nat) ^ 33 = 8589934592 := by decide +kernel
  rw [← e64, ← e31, ← e33] at k1 k2
  exact k1.1 (_root_.Hs.apart2 (q1 := 614540362697595703) (cc := 379806830464837242) (r1 := 9148689060682678900) hm (by decide +kernel) (by decide +kernel) (by decide +kernel) (by decide +kernel) (by decide +kernel) (by decide +kernel) m0 (by decide +kernel) (Nat.mod_lt _ m0) (Nat.mod_lt _ m0) k1.2 k2.2 h)
theorem tP_in (a : Int) {b : Nat} (hb : b ≤ 3600) : Builtin.Tuple.tupleHashOf [a, (b : Int)] ≠ -1 ∧ -((2 ^ 63 : Nat) : Int) ≤ Builtin.Tuple.tupleHashOf [a, (b : Int)] ∧ Builtin.Tuple.tupleHashOf [a, (b : Int)] < ((2 ^ 63 : Nat) : Int) := by
  have e0 : (1546275796 : Int) = ((1546275796 : Nat) : Int) := rfl
  have big : 3600 < 2 ^ 64 := by decide +kernel
  have hm : (2 : Nat) ^ 64 = 2 ^ 31 * 2 ^ 33 := by decide +kernel
  rw [tH_eq, e0, show [a, (b : Int)].length = 2 from rfl]
  rw [two _ _ _ _ _ _ _ _ _ hm a b (by omega)]
  exact _root_.Hs.fin_ne (by decide +kernel) (by decide +kernel) (by decide +kernel) (Nat.mod_lt _ (by decide +kernel))
theorem hashInt_3600 {a : Nat} (ha : a ≤ 3600) : hashInt (a : Int) = (a : Int) := by
  have e : ((a : Int).natAbs % (2 ^ 61 - 1 : Nat)) = a := by
    rw [Int.natAbs_natCast]; exact Nat.mod_eq_of_lt (Nat.lt_of_le_of_lt ha (by decide +kernel))
  have n0 : ¬ ((a : Int) < 0) := by omega
  have n1 : ¬ (((a : Int) == -1) = true) := by
    intro z
    have := eq_of_beq z
    omega
  have r : rawHash (a : Int) = (a : Int) := by
    unfold rawHash
    simp only [if_neg n0, ← Int.natCast_emod, e]
    rw [if_neg n1]
  unfold hashInt
  rw [r, if_neg n1]
end Hs
open PySem.Spec L2
/-- a dict whose keys are pairs of whole numbers up to 3600 may be copied in every world -/
theorem pk_apart {P : Program} {w : World} {l : List (Nat × Nat)} (nd : l.Nodup) (h : ∀ q ∈ l, q.1 ≤ 3600 ∧ q.2 ≤ 3600) : (l.map fun q => tupleKeyHash (mixKind P w) [Sum.inl ((q.1 : Nat) : Int), Sum.inl ((q.2 : Nat) : Int)]).Nodup := by
  refine List.pairwise_map.mpr (List.Pairwise.imp_of_mem (R := fun a b => a ≠ b) (fun {a b} ha hb ne z => ne ?_) nd)
  have ev : ∀ q ∈ l, tupleKeyHash (mixKind P w) [Sum.inl ((q.1 : Nat) : Int), Sum.inl ((q.2 : Nat) : Int)] = Builtin.Tuple.tupleHashOf [(q.1 : Int), (q.2 : Int)] := fun q hq => by
    obtain ⟨q1, q2⟩ := h q hq
    show reduceHash (Builtin.Tuple.tupleHashOf [hashInt (q.1 : Int), hashInt (q.2 : Int)]) = _
    rw [Hs.hashInt_3600 q1, Hs.hashInt_3600 q2]
    obtain ⟨h1, h2, h3⟩ := Hs.tP_in (q.1 : Int) q2
    exact Hs.red_id h1 h2 h3
  rw [ev a ha, ev b hb] at z
  obtain ⟨e1, e2⟩ := Hs.apartP (h a ha).1 (h a ha).2 (h b hb).1 (h b hb).2 z
  exact Prod.ext e1 e2
end My

set_option linter.all false
namespace My
open PySem PySem.Spec PyProof.Rows L2
/-! ### {k: v, l: u} : a dict of two entries, any keys -/
section
variable {X : Cx} {pins : List (Addr × Obj)} {σ : L2.St} {H : Hp} {s : Shared}
theorem dn_put {d : Addr} {kvs : List Kvv} {k : NestedKey} {i v : V} {iv u : Value} {Q : Unit → Shared → Prop} (hu : X.A.units + 8 < cLine) (I : Inv X pins σ H s) (hd : DN X.w H d kvs) (hk : KeyV H k i) (h8 : k.depth ≤ 8) (ri : RelV i iv) (rv : RelV v u) (hz : kvs.length < sizeLine)
    (q : ∀ (s' : Shared) (H' : Hp), Inv X pins σ H' s' → (∀ b, b ≠ d → H' b = H b) → DN X.w H' d (putN kvs k i v) → Q () s') : wpAny (model X.prog X.w) X.A (dictSet d iv u) Q X.xe s := by
  obtain ⟨ob, es, ep, hH, ho, hx, hdt, hm, hE⟩ := hd.raw I.hok
  refine dictSet_any hu (hk.is I ri) h8 ho hx hdt (hE.ks I) (by rw [← hE.len]; exact hE.lt) fun h' es' ep' hr hs hc => ?_
  have up : ∀ b xs, H b = some (.tup xs) → upd H d (rawO d es' ep') b = some (.tup xs) := tup_upd hH fun xs z => nomatch z
  exact q _ (upd H d (rawO d es' ep')) (I.write (x := d) (e := d) (by rw [hH]; trivial) (.inl rfl) (fun b u hb e => (hs.2 b hb).trans e) (let ⟨o, e, _⟩ := hr; ⟨o, e⟩) (ext_ok hr hm)) (fun b hb => upd_ne hb) ⟨es', ep', upd_same, ents_put hE hk ri h8 rv hz up hc⟩
end
def tDisp2 (w : World) (tk tv tk2 tv2 : TE) : TE := fun σ H Q => ∀ p, H p = none → tk σ (upd H p (rawO p #[] 0)) fun x H1 => tv σ H1 fun y H2 => tk2 σ H2 fun x2 H3 => tv2 σ H3 fun y2 H4 => ∃ k k2 : NestedKey, H4 p = some (rawO p #[] 0) ∧ KeyV H4 k x ∧ KeyV H4 k2 x2 ∧ k.depth ≤ 8 ∧ k2.depth ≤ 8 ∧
  ∀ H5, (∀ b, b ≠ p → H5 b = H4 b) → DN w H5 p (putN [(k, x, y)] k2 x2 y2) → Q (.ref p) H5
theorem pe_disp2 {X : Cx} {ek ev ek2 ev2 : Expr} {tk tv tk2 tv2 : TE} {pos : Pos} (hu : X.A.units + 8 < cLine) (hk : PE X ek tk) (hv : PE X ev tv) (hk2 : PE X ek2 tk2) (hv2 : PE X ev2 tv2) : PE X (.Dict [some ek, some ek2] [ev, ev2] pos) (tDisp2 X.w tk tv tk2 tv2) := by
  refine ⟨fun pins s σ H Q I q => ?_⟩
  have fresh := I.hok.fresh (Nat.le_refl s.heap.objs.size)
  have hm : (s.heap.objs.size == sysModules) = false := beq_eq_false_iff_ne.mpr (Nat.ne_of_gt I.big)
  have I1 := I.laid (a := s.heap.objs.size) (o := rawO s.heap.objs.size #[] 0) (h' := s.heap.push { cls := .type "dict", data := .dict #[] }) (t' := s.toks) (fun _ _ e => Heap.get?_push_of_some _ e) (Nat.le_refl _)
    (ext_ok ⟨_, Heap.get?_push_size _ rfl, ⟨rfl, rfl, rfl⟩, rfl⟩ hm)
  rw [arm_eval_Dict, zip_pairTrees _ _ _ _ rfl rfl, dictDisplay_pairs _ (by simp [pairTrees]) (by simp [pairTrees])]
  refine wpAny_bind (wpAny_standAt (wpAny_bind ?_))
  unfold subDict
  refine wpAny_bind (wpAny_alloc ?_)
  refine wpAny_bind (wpAny_holding ?_)
  rw [if_pos (by simp [pairTrees])]
  refine wpAny_bind (pairTrees_cons_walk ?_)
  refine thn (hk.run pins _ σ _ _ I1 (q _ fresh)) fun u1 s1 ⟨x, H1, J1, r1, q1⟩ => ?_
  refine thn (hv.run pins s1 σ _ _ J1 q1) fun u2 s2 ⟨y, H2, J2, r2, q2⟩ => ?_
  refine pairTrees_cons_walk ?_
  refine thn (hk2.run pins s2 σ _ _ J2 q2) fun u3 s3 ⟨x2, H3, J3, r3, q3⟩ => ?_
  refine thn (hv2.run pins s3 σ _ _ J3 q3) fun u4 s4 ⟨y2, H4, J4, r4, k, k2, hp, g1, g2, d1, d2, q4⟩ => ?_
  refine pairTrees_nil_walk (wpAny_holding ?_)
  have D0 : DN X.w H4 s.heap.objs.size [] := ⟨#[], 0, hp, ⟨.nil, List.nodup_nil, Nat.zero_le _⟩⟩
  rw [List.forIn_cons]
  refine wpAny_bind (wpAny_bind (wpAny_bind (dn_put hu J4 D0 g1 d1 r1 r2 (by show 0 < sizeLine; decide) fun s5 H5 J5 f5 D5 => wpAny_pure ?_)))
  dsimp only
  rw [putN_new (by simp), List.nil_append] at D5
  have up5 : ∀ b xs, H4 b = some (.tup xs) → H5 b = some (.tup xs) := fun b xs e => by
    rw [f5 b (fun z => by rw [z, hp] at e; cases e)]; exact e
  rw [List.forIn_cons]
  refine wpAny_bind (wpAny_bind (dn_put hu J5 D5 (g2.up up5) d2 r3 r4 (by show 1 < sizeLine; decide) fun s6 H6 J6 f6 D6 => wpAny_pure ?_))
  dsimp only
  rw [List.forIn_nil]
  exact wpAny_pure (wpAny_pure (wpAny_pure (wpAny_pure ⟨.ref _, H6, J6, rfl, q4 _ (fun b hb => (f6 b hb).trans (f5 b hb)) D6⟩)))
end My

set_option linter.all false
namespace My
open PySem PySem.Spec PyProof.Rows L2
/-! ### a def that is handed a function: C tells, at its entry, what that function's cells hold -/
structure FnC (P : Program) (w : World) (K : PySem.W.Frag) (mg : Str → Option Value) (base : Heap) (k : Nat) (f : Addr) (fd : FuncData) (ps : List Str) (C : List Env → Heap → Hp → Prop) (sp : Sp) : Prop where
  len : ∀ vs H Q E, sp vs H Q E → vs.length = ps.length
  run : ∀ (A : Around) (out : List Env) (s : Shared) (H : Hp) (ar : Args) (us : List Value) (vs : List V) (Q : VK) (E : XK), Room k A → Env0 P w K mg base A out s H → C out s.heap H → BindsTo s fd ar (ps.zip us) → Vals vs us → sp vs H Q E →
    codeAny (model P w) A (.call (.ref f) ar) (CR CX0 out P w H s Q E) s
section
variable {P : Program} {w : World} {K : PySem.W.Frag} {mg : Str → Option Value} {base : Heap} {C : List Env → Heap → Hp → Prop}
theorem fnc_ok {x qual : Str} {st : Stmt} {f : Addr} {fd : FuncData} {N ps : List Str} {k : Nat} {sp : Sp} (F : Fun K x qual st f fd) (S : FnScope N ps (defScope st)) (ln : ∀ vs H Q E, sp vs H Q E → vs.length = ps.length)
    (body : ∀ (cdv : Value) (A : Around) (out : List Env) (s : Shared) (H : Hp) (vs : List V) (Q : VK) (E : XK), Room k (A.deeper (envOfC qual (defScope st) s.heap.objs.size f cdv)) → C out s.heap H → sp vs H Q E →
      ∃ t, PSs (cxOf CX0 P w K mg base N qual (defScope st) f cdv A out s H E).nox (defBody st) t ∧ t { nx := fun _ G => Q .non G, rt := Q } (start N vs) H) : FnC P w K mg base (k + 1) f fd ps C sp := by
  obtain ⟨oc, od, kV, doc, pm, an, cdv, ct, osl, rfl, lk, cd⟩ := F.ex
  refine ⟨ln, fun A out s H ar us vs Q E room e0 hC bd rel want => ?_⟩
  have lenv := ln _ _ _ _ want
  have inK : K.In s.heap := e0.mod.kin.keeps fun b o z => (e0.bs b o z).1
  have free : s.heap.NoLimit := e0.mod.nolimit.keeps fun b o z => (e0.bs b o z).1
  have names : ∀ y ∈ ps.zip us, (defScope st).names.lookup y.1 = some .local ∨ ((defScope st).names.lookup y.1 = some .cell ∧ ((cellsFrom (s.heap.objs.size + 1) (defScope st).names []).lookup y.1).isSome = true) := by
    rintro ⟨n, v⟩ hy
    exact (S.par n (List.of_mem_zip hy).1).imp id fun q => ⟨q, PySem.W.cellsFrom_some _ _ _ (.inl q)⟩
  refine codeAny_call_function room.depth (inK _ _ lk) rfl S.co S.gen rfl (PySem.W.codeRec_of inK cd) (bd _ _ _ _ (wpAny_newFunctionEnv_cells S.kind names fun env he s1 at1 => ?_))
  subst he
  refine ⟨free.keeps at1.toInCall.keep, codeAny_func ?_⟩
  obtain ⟨t, pt, goal⟩ := body cdv A out s H vs Q E (room.deeper _) hC want
  have I := inv_start (CX := CX0) (E := E) S room.hd e0 lenv rel at1
  refine wpAny_mono (pt.nox.run [] s1 (start N vs) H _ I goal) (fun fl s' out' => ?_) fun e s' z => z
  have give : ∀ {σ' : L2.St} {G : Hp} {v : V} {u : Value}, Inv (cxOf CX0 P w K mg base N qual (defScope st) f cdv A out s H E) [] σ' G s' → RelV v u → Q v G → CE out P w H s Q u s' :=
    fun {_ G v _} J rv q => ⟨v, G, J.os, J.bare, J.base, J.hok, rv, q⟩
  match fl, out' with
  | .ret u, ⟨v, σ', G, J, rv, q⟩ => exact give J rv q
  | .next, ⟨σ', G, J, q⟩ => exact give (v := V.non) (u := Value.none) J rfl q
  | .brk, ⟨_, _, _, q⟩ => exact q.elim
  | .cont, ⟨_, _, _, q⟩ => exact q.elim
end
/-- what the handed function's cells hold; none of them is a frame's -/
def CapsAt (cl : List (Str × Addr)) (fr : List Str) (ws : List (Option V)) : List Env → Heap → Hp → Prop := fun out h H => NdefX.CellsAt cl fr ws h H ∧ ∀ y c, cl.lookup y = some c → c ∉ frs out
theorem cell_apart {X : Cx} {pins : List (Addr × Obj)} {σ : L2.St} {H : Hp} {s : Shared} (I : Inv X pins σ H s) (hst : X.stack = X.env :: X.outer) {y : Str} {c : Addr} (hf : X.fn y = true) (hc : X.env.cells.lookup y = some c) : c ∉ frs X.stack := fun z => by
  have ab := I.ok.cab y c hf hc
  have cne := I.cne y c hc
  rw [hst] at z
  unfold frs at z
  rw [List.filterMap_cons] at z
  have key : c ∈ frs X.outer → False := fun z => by
    obtain ⟨_, o, ho, _⟩ := I.ok.funs.mem z
    exact absurd (Nat.lt_of_lt_of_le (Heap.lt_size ho) ab) (Nat.lt_irrefl _)
  rcases I.ok.stk with e | ⟨e, e2⟩
  · rw [hst] at e
    have := congrArg List.length e
    simp at this
  · rw [e2] at z
    rcases List.mem_cons.mp z with q | q
    · exact cne q
    · exact key q
/-! the call: the handed function was made in the running frame; js: where its captured names stand -/
def tCallC (js : List Nat) (sp : List (Option V) → Sp) (dvs : List V) (t : TA) : TE := fun σ H Q => t σ H fun vs H1 => sp (js.map (NdefX.slotAt σ)) (vs ++ dvs) H1 Q E0
section
variable {X : Cx} {x : Str} {p pos : Pos} {e : Expr} {es : List Expr} {t : TA} {f : Addr} {fd : FuncData} {ps fr : List Str} {k : Nat} {js : List Nat} {cl : List (Str × Addr)} {sp : List (Option V) → Sp} {dvs : List V} {ds : List Value}
theorem pe_callC (F : ∀ ws, FnC X.prog X.w X.K X.mg X.base k f fd ps (CapsAt cl fr ws) (sp ws)) (own : ∀ y c, cl.lookup y = some c → X.fn y = true) (hst : X.stack = X.env :: X.outer) (room : Room k X.A) (hg : Gl X x) (hm : X.mg x = some (.ref f)) (keep : PySem.W.keepIn X.K (.ref f) = true) (bd : Binds X.K fd ps ds) (dv : Vals dvs ds) (cp : X.Ok → NdefX.Caps X cl fr js)
    (ha : PA X (e :: es) t) (hdb : (x == ("__debug__" : Str)) = false := by decide) (he : starEach (e :: es) X.env = (false, eval e X.env) :: starEach es X.env := by rfl) (hpl : (backTo pos (starEach es X.env)).any (·.1) = false := by rfl) :
    PE X (.Call (.Name x p) (e :: es) [] pos) (tCallC js sp dvs t) := by
  refine ⟨fun pins s σ H Q I h => wpAny_Call_Name_kw (ld_glob I hg hm (PySem.W.callWith_K (h₀ := X.base) I.ok.mod.kin keep (thn (ha.run pos pins s σ H _ I h) fun us s1 ⟨vs, H1, J, rel, q⟩ => ⟨J.kIn, ?_⟩) he hpl) hdb)⟩
  have rel2 : Vals (vs ++ dvs) (us ++ ds) := rel.append dv
  have hl : (us ++ ds).length = ps.length := rel2.length.symm.trans ((F _).len _ _ _ _ q)
  refine wpAny_call (codeAny_mono ((F _).run X.A X.stack s1 H1 ⟨us, []⟩ (us ++ ds) (vs ++ dvs) Q E0 room J.env0 ⟨NdefX.cells_of J (cp J.ok), fun y c e => cell_apart J hst (own y c e) ((cp J.ok).sub y c e)⟩ (bd s1 us J.kIn hl) rel2 q) fun r s' z => ?_)
  match r, z with
  | .error _, z => exact (show False from z).elim
  | .ok (.ret _), z => exact J.after z
  | .ok .next, z => exact (show False from z).elim
  | .ok .brk, z => exact (show False from z).elim
  | .ok .cont, z => exact (show False from z).elim
end
/-! .. and within: the call of what was handed, a local's name; its cells are as they were when this frame began -/
open NdefX LamX in
def tCallP (i : Nat) (F2 : NdefX.NF) (sp : Sp) (t : TA) : TE := fun σ H Q => ∃ g : Addr, σ[i]? = some (some (.ref g)) ∧ H g = some (FnO g F2) ∧ t σ H fun vs H1 => H1 g = some (FnO g F2) ∧ H1 F2.c = some (CodeO F2.c F2.qual) ∧ sp vs H1 Q E0
section
open NdefX LamX
variable {X : Cx} {x : Str} {p pos : Pos} {e : Expr} {es : List Expr} {t : TA} {F2 : NdefX.NF} {ps fr : List Str} {i k : Nat} {ws : List (Option V)} {spn : List (Option V) → Sp}
theorem pe_callP (Fn : ∀ g, NdefX.NOk X.prog X.w X.K X.mg X.base CX0 k g F2 ps fr spn) (C : NdefX.CellsAt F2.cl fr ws X.s_0.heap X.H_0) (nf : ∀ y c, F2.cl.lookup y = some c → c ∉ X.fs) (nx : ∀ y c, F2.cl.lookup y = some c → c ∉ X.ex) (room : Room k X.A) (hN : X.N[i]? = some x) (hv : Vis X.env.scope x) (ha : PA X (e :: es) t)
    (hd : (x == ("__debug__" : Str)) = false := by decide) (hcd : (x == ("__classdict__" : Str)) = false := by decide) (he : starEach (e :: es) X.env = (false, eval e X.env) :: starEach es X.env := by rfl) (hpl : (backTo pos (starEach es X.env)).any (·.1) = false := by rfl) :
    PE X (.Call (.Name x p) (e :: es) [] pos) (tCallP i F2 (spn ws) t) := by
  refine ⟨fun pins s σ H Q I h => ?_⟩
  obtain ⟨g, at', fo, rest⟩ := h
  refine wpAny_Call_Name_kw (thn ((pe_var (pos := p) hN hv hd hcd).run pins s σ H (fun v G => v = .ref g ∧ G = H) I ⟨.ref g, at', rfl, rfl⟩) fun u s1 ⟨v, G, J, rv, ev, eG⟩ => ?_)
  subst ev
  subst eG
  obtain rfl : u = Value.ref g := rv
  refine PySem.W.callWith_F (first := []) (fnAt_of J fo) (thn (ha.run pos pins s1 σ _ _ J rest) fun us s2 ⟨vs, H2, J2, rel, h1, h2, q⟩ => ⟨fnAt_of J2 h1, ?_⟩) he hpl
  show wpAny _ _ (call (.ref g) us) _ _ _
  refine wpAny_call (codeAny_mono ((Fn g).run X.A X.stack s2 H2 us vs ws Q E0 room J2.env0 h1 h2 (C.later nf nx J2) rel q) fun r s' z => ?_)
  match r, z with
  | .error _, z => exact (show False from z).elim
  | .ok (.ret _), z => exact J2.after z
  | .ok .next, z => exact (show False from z).elim
  | .ok .brk, z => exact (show False from z).elim
  | .ok .cont, z => exact (show False from z).elim
end
end My

/-! stretches: a closed piece of 0 to 1 in parts of w, gone into by a digit to the base B -/
namespace Sx
abbrev St := Int × Int
def step (B w d : Int) (s : St) : Option St := if s.1 * B - d * w > w ∨ s.2 * B - d * w < 0 then none else some (max 0 (s.1 * B - d * w), min w (s.2 * B - d * w))
structure Al (w : Int) (s : St) : Prop where
  b : 0 ≤ s.1
  be : s.1 ≤ s.2
  e : s.2 ≤ w
theorem step_some {B w d : Int} {s s' : St} (h : step B w d s = some s') : s.1 * B - d * w ≤ w ∧ 0 ≤ s.2 * B - d * w ∧ s' = (max 0 (s.1 * B - d * w), min w (s.2 * B - d * w)) := by
  unfold step at h
  split at h
  · cases h
  · rename_i c
    exact ⟨by omega, by omega, (Option.some.inj h).symm⟩
theorem step_at {B w d : Int} {s : St} (h1 : s.1 * B - d * w ≤ w) (h2 : 0 ≤ s.2 * B - d * w) : step B w d s = some (max 0 (s.1 * B - d * w), min w (s.2 * B - d * w)) := by
  unfold step
  rw [if_neg (by omega)]
theorem step_no {B w d : Int} {s : St} (h : s.1 * B - d * w > w ∨ s.2 * B - d * w < 0) : step B w d s = none := by
  unfold step
  rw [if_pos h]
theorem Al.step {B w d : Int} {s s' : St} (hB : 0 ≤ B) (hw : 0 ≤ w) (a : Al w s) (h : step B w d s = some s') : Al w s' := by
  obtain ⟨h1, h2, rfl⟩ := step_some h
  have := Int.mul_le_mul_of_nonneg_right a.be hB
  refine ⟨?_, ?_, ?_⟩ <;> dsimp only <;> omega
/-- the digit of a number from 0 to w -/
theorem digit_of {B w b : Int} (hB : 2 ≤ B) (hw : 0 < w) (h0 : 0 ≤ b) (h1 : b ≤ w) : ∃ d : Int, 0 ≤ d ∧ d < B ∧ 0 ≤ b * B - d * w ∧ b * B - d * w ≤ w := by
  by_cases c : b = w
  · refine ⟨B - 1, by omega, by omega, ?_, ?_⟩
    · have e : b * B - (B - 1) * w = w := by rw [c, Int.sub_mul, Int.mul_comm B w]; omega
      omega
    · have e : b * B - (B - 1) * w = w := by rw [c, Int.sub_mul, Int.mul_comm B w]; omega
      omega
  · have m1 := Int.emod_nonneg (b * B) (show w ≠ 0 by omega)
    have m2 := Int.emod_lt_of_pos (b * B) hw
    have m3 := Int.mul_ediv_add_emod (b * B) w
    have e : b * B - b * B / w * w = b * B % w := by rw [Int.mul_comm (b * B / w) w]; omega
    refine ⟨b * B / w, Int.ediv_nonneg (Int.mul_nonneg h0 (by omega)) (by omega), ?_, by omega, by omega⟩
    refine Int.ediv_lt_of_lt_mul hw ?_
    rw [Int.mul_comm B w]
    exact Int.mul_lt_mul_of_pos_right (by omega) (by omega)
/-- a state that is alive goes on along some digit -/
theorem Al.goes {B w : Int} {s : St} (hB : 2 ≤ B) (hw : 0 < w) (a : Al w s) : ∃ d, 0 ≤ d ∧ d < B ∧ ∃ s', Sx.step B w d s = some s' := by
  have h1 := a.be
  have h2 := a.e
  obtain ⟨d, d0, d1, e0, e1⟩ := digit_of hB hw a.b (by omega)
  have := Int.mul_le_mul_of_nonneg_right a.be (show 0 ≤ B by omega)
  exact ⟨d, d0, d1, _, step_at e1 (by omega)⟩
/-- what a partition keeps: alike states go on along the same digits, to alike ones -/
structure Bis (B w : Int) (R : St → St → Prop) : Prop where
  al : ∀ s t, R s t → Al w s ∧ Al w t
  no : ∀ s t d, R s t → 0 ≤ d → d < B → (step B w d s = none ↔ step B w d t = none)
  go : ∀ s t d s' t', R s t → 0 ≤ d → d < B → step B w d s = some s' → step B w d t = some t' → R s' t'
theorem Bis.begins {B w : Int} {R : St → St → Prop} (hB : 2 ≤ B) (hw : 0 < w) (b : Bis B w R) : ∀ (n : Nat) (s t : St), R s t → (w - (t.1 - s.1)).toNat ≤ n → ¬ s.1 < t.1
  | n, s, t, r, hn, lt => by
    obtain ⟨as, at'⟩ := b.al s t r
    have h1 := as.be
    have h2 := as.e
    have h3 := at'.be
    have h4 := at'.e
    have h5 := as.b
    obtain ⟨d, d0, d1, e0, e1⟩ := digit_of hB hw as.b (by omega)
    have m1 := Int.mul_le_mul_of_nonneg_right as.be (show 0 ≤ B by omega)
    have hs := step_at (B := B) (w := w) (d := d) (s := s) e1 (by omega)
    cases ht : step B w d t with
    | none => rw [(b.no s t d r d0 d1).mpr ht] at hs; cases hs
    | some t' =>
      obtain ⟨k1, k2, rfl⟩ := step_some ht
      have r' := b.go s t d _ _ r d0 d1 hs ht
      have big : 2 * (t.1 - s.1) ≤ (t.1 - s.1) * B := by
        rw [Int.mul_comm]
        exact Int.mul_le_mul_of_nonneg_left hB (by omega)
      have dist : (t.1 - s.1) * B = t.1 * B - s.1 * B := Int.sub_mul _ _ _
      cases n with
      | zero => omega
      | succ n =>
        refine b.begins hB hw n _ _ r' ?_ ?_
        · dsimp only; omega
        · dsimp only; omega
theorem Bis.ends {B w : Int} {R : St → St → Prop} (hB : 2 ≤ B) (hw : 0 < w) (b : Bis B w R) : ∀ (n : Nat) (s t : St), R s t → (w - (t.2 - s.2)).toNat ≤ n → ¬ s.2 < t.2
  | n, s, t, r, hn, lt => by
    obtain ⟨as, at'⟩ := b.al s t r
    have h1 := as.be
    have h2 := as.e
    have h3 := at'.be
    have h4 := at'.e
    have h5 := as.b
    have h6 := at'.b
    obtain ⟨d, d0, d1, e0, e1⟩ := digit_of hB hw (show 0 ≤ t.2 by omega) h4
    have m1 := Int.mul_le_mul_of_nonneg_right at'.be (show 0 ≤ B by omega)
    have ht := step_at (B := B) (w := w) (d := d) (s := t) (by omega) e0
    cases hs : step B w d s with
    | none => rw [(b.no s t d r d0 d1).mp hs] at ht; cases ht
    | some s' =>
      obtain ⟨k1, k2, rfl⟩ := step_some hs
      have r' := b.go s t d _ _ r d0 d1 hs ht
      have big : 2 * (t.2 - s.2) ≤ (t.2 - s.2) * B := by
        rw [Int.mul_comm]
        exact Int.mul_le_mul_of_nonneg_left hB (by omega)
      have dist : (t.2 - s.2) * B = t.2 * B - s.2 * B := Int.sub_mul _ _ _
      cases n with
      | zero => omega
      | succ n =>
        refine b.ends hB hw n _ _ r' ?_ ?_
        · dsimp only; omega
        · dsimp only; omega
/-- a partition that is kept merges no two states -/
theorem Bis.eq {B w : Int} {R : St → St → Prop} (hB : 2 ≤ B) (hw : 0 < w) (b : Bis B w R) (sym : ∀ s t, R s t → R t s) {s t : St} (r : R s t) : s = t := by
  have a1 := b.begins hB hw _ s t r (Nat.le_refl _)
  have a2 := b.begins hB hw _ t s (sym _ _ r) (Nat.le_refl _)
  have a3 := b.ends hB hw _ s t r (Nat.le_refl _)
  have a4 := b.ends hB hw _ t s (sym _ _ r) (Nat.le_refl _)
  exact Prod.ext (by omega) (by omega)
/-! the program's states: the begin in parts of p, the end in parts of q -/
def pstep (B p q d : Int) (s : St) : Option St := if s.1 * B - d * p > p ∨ s.2 * B - d * q < 0 then none else some (max (s.1 * B - d * p) 0, min (s.2 * B - d * q) q)
def phi (p q : Int) (s : St) : St := (s.1 * q, s.2 * p)
theorem phi_inj {p q : Int} (hp : 0 < p) (hq : 0 < q) {s t : St} (h : phi p q s = phi p q t) : s = t := by
  unfold phi at h
  injection h with h1 h2
  exact Prod.ext (Int.eq_of_mul_eq_mul_right (by omega) h1) (Int.eq_of_mul_eq_mul_right (by omega) h2)
theorem max_mul {x q : Int} (hq : 0 < q) : max 0 (x * q) = max x 0 * q := by
  rcases Int.le_total 0 x with h | h
  · rw [Int.max_eq_left h, Int.max_eq_right (Int.mul_nonneg h (by omega))]
  · have : x * q ≤ 0 := Int.mul_nonpos_of_nonpos_of_nonneg h (by omega)
    rw [Int.max_eq_right h, Int.max_eq_left this, Int.zero_mul]
theorem min_mul {y p q : Int} (hp : 0 < p) : min (p * q) (y * p) = min y q * p := by
  rw [Int.mul_comm p q]
  rcases Int.le_total y q with h | h
  · rw [Int.min_eq_left h, Int.min_eq_right (Int.mul_le_mul_of_nonneg_right h (by omega))]
  · rw [Int.min_eq_right h, Int.min_eq_left (Int.mul_le_mul_of_nonneg_right h (by omega))]
theorem pstep_phi {B p q d : Int} (hp : 0 < p) (hq : 0 < q) (s : St) : step B (p * q) d (phi p q s) = (pstep B p q d s).map (phi p q) := by
  have e1 : (phi p q s).1 * B - d * (p * q) = (s.1 * B - d * p) * q := by
    show s.1 * q * B - _ = _
    rw [Int.sub_mul, Int.mul_assoc d p q]
    congr 1
    rw [Int.mul_assoc, Int.mul_comm q B, ← Int.mul_assoc]
  have e2 : (phi p q s).2 * B - d * (p * q) = (s.2 * B - d * q) * p := by
    show s.2 * p * B - _ = _
    rw [Int.sub_mul, Int.mul_comm p q, Int.mul_assoc d q p]
    congr 1
    rw [Int.mul_assoc, Int.mul_comm p B, ← Int.mul_assoc]
  unfold step pstep
  rw [e1, e2]
  generalize s.1 * B - d * p = x
  generalize s.2 * B - d * q = y
  have c1 : x * q > p * q ↔ x > p := ⟨fun h => Int.lt_of_mul_lt_mul_right h (by omega), fun h => Int.mul_lt_mul_of_pos_right h hq⟩
  have c2 : y * p < 0 ↔ y < 0 := by
    have z := Int.zero_mul p
    refine ⟨fun h => ?_, fun h => ?_⟩
    · rw [← z] at h
      exact Int.lt_of_mul_lt_mul_right h (by omega)
    · have := Int.mul_lt_mul_of_pos_right h hp
      omega
  by_cases c : x > p ∨ y < 0
  · rw [if_pos c, if_pos (c.imp c1.mpr c2.mpr)]; rfl
  · rw [if_neg c, if_neg (fun z => c (z.imp c1.mp c2.mp))]
    show some _ = some (phi p q _)
    rw [max_mul hq, min_mul hp]; rfl
/-! points: n of m parts lies in a stretch -/
def Ins (w n m : Int) (s : St) : Prop := s.1 * m ≤ n * w ∧ n * w ≤ s.2 * m
/-- how far a point lies beside a stretch -/
def far (w n m : Int) (s : St) : Int := max (s.1 * m - n * w) (n * w - s.2 * m)
theorem ins_far {w n m : Int} {s : St} : Ins w n m s ↔ far w n m s ≤ 0 := by
  unfold Ins far
  omega
theorem exp_mul (B w d m n b : Int) : (b * B - d * w) * m - (n * B - d * m) * w = (b * m - n * w) * B := by
  rw [Int.sub_mul, Int.sub_mul, Int.sub_mul]
  have h1 : b * B * m = b * m * B := by ac_rfl
  have h2 : d * w * m = d * m * w := by ac_rfl
  have h3 : n * B * w = n * w * B := by ac_rfl
  rw [h1, h2, h3]
  omega
/-- within: it stays within, and the state goes on -/
theorem ins_step {B w n m d : Int} {s : St} (hB : 2 ≤ B) (hw : 0 < w) (hm : 0 < m) (h : Ins w n m s) (e0 : 0 ≤ n * B - d * m) (e1 : n * B - d * m ≤ m) : ∃ s', step B w d s = some s' ∧ Ins w (n * B - d * m) m s' := by
  have q1 := exp_mul B w d m n s.1
  have q2 := exp_mul B w d m n s.2
  have z1 : (s.1 * m - n * w) * B ≤ 0 := Int.mul_nonpos_of_nonpos_of_nonneg (by have := h.1; omega) (by omega)
  have z2 : 0 ≤ (s.2 * m - n * w) * B := Int.mul_nonneg (by have := h.2; omega) (by omega)
  have t0 : 0 ≤ (n * B - d * m) * w := Int.mul_nonneg e0 (by omega)
  have t1 : (n * B - d * m) * w ≤ m * w := Int.mul_le_mul_of_nonneg_right e1 (by omega)
  generalize n * B - d * m = n' at *
  have k1 : s.1 * B - d * w ≤ w := by
    refine Int.le_of_mul_le_mul_right (a := m) ?_ hm
    rw [Int.mul_comm w m]; omega
  have k2 : 0 ≤ s.2 * B - d * w := by
    refine Int.le_of_mul_le_mul_right (a := m) ?_ hm
    rw [Int.zero_mul]; omega
  refine ⟨_, step_at k1 k2, ?_, ?_⟩
  · dsimp only
    rcases Int.le_total 0 (s.1 * B - d * w) with c | c
    · rw [Int.max_eq_right c]; omega
    · rw [Int.max_eq_left c, Int.zero_mul]; exact t0
  · dsimp only
    rcases Int.le_total w (s.2 * B - d * w) with c | c
    · rw [Int.min_eq_left c, Int.mul_comm w m]; exact t1
    · rw [Int.min_eq_right c]; omega
/-- beside: while the state goes on, it lies B times as far -/
theorem out_step {B w n m d : Int} {s s' : St} (hB : 2 ≤ B) (hw : 0 < w) (hm : 0 < m) (h : 0 < far w n m s) (e0 : 0 ≤ n * B - d * m) (e1 : n * B - d * m ≤ m) (st : step B w d s = some s') : far w n m s < far w (n * B - d * m) m s' := by
  obtain ⟨k1, k2, rfl⟩ := step_some st
  have q1 := exp_mul B w d m n s.1
  have q2 := exp_mul B w d m n s.2
  have t0 : 0 ≤ (n * B - d * m) * w := Int.mul_nonneg e0 (by omega)
  have t1 : (n * B - d * m) * w ≤ m * w := Int.mul_le_mul_of_nonneg_right e1 (by omega)
  unfold far at h ⊢
  generalize n * B - d * m = n' at *
  dsimp only
  have grow : ∀ x : Int, 0 < x → x < x * B := fun x hx => by
    have := Int.mul_le_mul_of_nonneg_left hB (show 0 ≤ x by omega)
    omega
  rcases Int.le_total (s.1 * m - n * w) (n * w - s.2 * m) with c | c
  · rw [Int.max_eq_right c] at h ⊢
    have g := grow _ h
    have e : (n * w - s.2 * m) * B = -((s.2 * m - n * w) * B) := by rw [← Int.neg_mul]; congr 1; omega
    have lt : s.2 * B - d * w < w := by
      refine Int.lt_of_mul_lt_mul_right (a := m) ?_ (by omega)
      rw [Int.mul_comm w m]; omega
    rw [Int.min_eq_right (show s.2 * B - d * w ≤ w by omega)]
    refine Int.lt_of_lt_of_le ?_ (Int.le_max_right _ _)
    omega
  · rw [Int.max_eq_left c] at h ⊢
    have g := grow _ h
    have gt : 0 < s.1 * B - d * w := by
      refine Int.lt_of_mul_lt_mul_right (a := m) ?_ (by omega)
      rw [Int.zero_mul]; omega
    rw [Int.max_eq_right (show 0 ≤ s.1 * B - d * w by omega)]
    refine Int.lt_of_lt_of_le ?_ (Int.le_max_left _ _)
    omega
end Sx

/-! a point gone along its digits -/
namespace Sx
theorem digit_min {B m n : Int} (hB : 2 ≤ B) (hm : 0 < m) (h0 : 0 ≤ n) (h1 : n ≤ m) : 0 ≤ min (B - 1) (n * B / m) ∧ min (B - 1) (n * B / m) < B ∧ 0 ≤ n * B - min (B - 1) (n * B / m) * m ∧ n * B - min (B - 1) (n * B / m) * m ≤ m := by
  have q0 : 0 ≤ n * B / m := Int.ediv_nonneg (Int.mul_nonneg h0 (by omega)) (by omega)
  by_cases c : n = m
  · have e : n * B / m = B := by rw [c, Int.mul_comm]; exact Int.mul_ediv_cancel _ (by omega)
    rw [e, Int.min_eq_left (by omega)]
    have e2 : n * B - (B - 1) * m = m := by rw [c, Int.sub_mul, Int.mul_comm B m]; omega
    omega
  · have m1 := Int.emod_nonneg (n * B) (show m ≠ 0 by omega)
    have m2 := Int.emod_lt_of_pos (n * B) hm
    have m3 := Int.mul_ediv_add_emod (n * B) m
    have e : n * B - n * B / m * m = n * B % m := by rw [Int.mul_comm (n * B / m) m]; omega
    have lt : n * B / m < B := by
      refine Int.ediv_lt_of_lt_mul hm ?_
      rw [Int.mul_comm B m]
      exact Int.mul_lt_mul_of_pos_right (by omega) (by omega)
    rw [Int.min_eq_right (by omega)]
    omega
/-- the walk: the state (if any is left) and the point behind k digits -/
def walk (B w m : Int) (s : St) (n : Int) : Nat → Option St × Int
  | 0 => (some s, n)
  | k + 1 => match (walk B w m s n k).1 with
    | none => (none, (walk B w m s n k).2)
    | some t => (step B w (min (B - 1) ((walk B w m s n k).2 * B / m)) t, (walk B w m s n k).2 * B - min (B - 1) ((walk B w m s n k).2 * B / m) * m)
theorem walk_pt {B w m n : Int} {s : St} (hB : 2 ≤ B) (hm : 0 < m) (h0 : 0 ≤ n) (h1 : n ≤ m) : ∀ k, 0 ≤ (walk B w m s n k).2 ∧ (walk B w m s n k).2 ≤ m
  | 0 => ⟨h0, h1⟩
  | k + 1 => by
    obtain ⟨i0, i1⟩ := walk_pt (s := s) hB hm h0 h1 (w := w) k
    unfold walk
    cases (walk B w m s n k).1 with
    | none => exact ⟨i0, i1⟩
    | some t =>
      obtain ⟨_, _, e0, e1⟩ := digit_min hB hm i0 i1
      exact ⟨e0, e1⟩
/-- a point within: the walk goes on for ever -/
theorem walk_in {B w m n : Int} {s : St} (hB : 2 ≤ B) (hw : 0 < w) (hm : 0 < m) (h0 : 0 ≤ n) (h1 : n ≤ m) (h : Ins w n m s) : ∀ k, ∃ t, (walk B w m s n k).1 = some t ∧ Ins w (walk B w m s n k).2 m t
  | 0 => ⟨s, rfl, h⟩
  | k + 1 => by
    obtain ⟨t, e, i⟩ := walk_in hB hw hm h0 h1 h k
    obtain ⟨i0, i1⟩ := walk_pt (s := s) (w := w) hB hm h0 h1 k
    obtain ⟨_, _, e0, e1⟩ := digit_min hB hm i0 i1
    obtain ⟨t', g1, g2⟩ := ins_step hB hw hm i e0 e1
    unfold walk
    rw [e]
    exact ⟨t', g1, g2⟩
/-- a point beside: while a state is left, it lies further off with each digit; so none comes twice -/
theorem walk_out {B w m n : Int} {s : St} (hB : 2 ≤ B) (hw : 0 < w) (hm : 0 < m) (h0 : 0 ≤ n) (h1 : n ≤ m) (h : 0 < far w n m s) : ∀ (k j : Nat) (t u : St), j < k → (walk B w m s n k).1 = some t → (walk B w m s n j).1 = some u → far w (walk B w m s n j).2 m u < far w (walk B w m s n k).2 m t
  | 0, _, _, _, hj, _, _ => by omega
  | k + 1, j, t, u, hj, et, eu => by
    have all : ∀ (i : Nat) (v : St), i ≤ k → (walk B w m s n i).1 = some v → 0 < far w (walk B w m s n i).2 m v := fun i v hi ev => by
      cases i with
      | zero => cases ev; exact h
      | succ i => 
        have := walk_out hB hw hm h0 h1 h (i + 1) 0 v s (by omega) ev rfl
        exact Int.lt_trans h this
    obtain ⟨i0, i1⟩ := walk_pt (s := s) (w := w) hB hm h0 h1 k
    obtain ⟨_, _, e0, e1⟩ := digit_min hB hm i0 i1
    unfold walk at et
    cases ek : (walk B w m s n k).1 with
    | none => rw [ek] at et; cases et
    | some v =>
      rw [ek] at et
      have st := out_step hB hw hm (all k v (Nat.le_refl _) ek) e0 e1 et
      have e2 : (walk B w m s n (k + 1)).2 = (walk B w m s n k).2 * B - min (B - 1) ((walk B w m s n k).2 * B / m) * m := by
        show (match (walk B w m s n k).1 with | none => (none, (walk B w m s n k).2) | some t => (step B w (min (B - 1) ((walk B w m s n k).2 * B / m)) t, (walk B w m s n k).2 * B - min (B - 1) ((walk B w m s n k).2 * B / m) * m)).2 = _
        rw [ek]
      rw [e2]
      rcases Nat.lt_or_ge j k with c | c
      · exact Int.lt_trans (walk_out hB hw hm h0 h1 h k j v u c ek eu) st
      · have : j = k := by omega
        subst this
        rw [ek] at eu
        cases eu
        exact st
end Sx

/-! going breadth first: keys in the order in which they are met, rows by their numbers -/
namespace Bf
section
variable {α β : Type} [DecidableEq α] [DecidableEq β]
def add (keys : List α) : List (Option α) → List α
  | [] => keys
  | none :: r => add keys r
  | some k :: r => add (if k ∈ keys then keys else keys ++ [k]) r
def row (keys : List α) (found : List (Option α)) : List (Option Nat) := found.map (Option.map fun k => keys.idxOf k)
def run (cells : α → List (Option α)) (first : α) : Nat → List α × List (List (Option Nat))
  | 0 => ([first], [])
  | n + 1 => match (run cells first n).1[n]? with
    | none => run cells first n
    | some k => (add (run cells first n).1 (cells k), (run cells first n).2 ++ [row (add (run cells first n).1 (cells k)) (cells k)])
theorem add_app (found : List (Option α)) : ∀ keys : List α, ∃ more, add keys found = keys ++ more := by
  induction found with
  | nil => exact fun keys => ⟨[], by simp [add]⟩
  | cons o r ih =>
    intro keys
    cases o with
    | none => exact ih keys
    | some k =>
      by_cases h : k ∈ keys
      · obtain ⟨m, e⟩ := ih keys
        exact ⟨m, by show add (if k ∈ keys then keys else keys ++ [k]) r = _; rw [if_pos h, e]⟩
      · obtain ⟨m, e⟩ := ih (keys ++ [k])
        exact ⟨k :: m, by show add (if k ∈ keys then keys else keys ++ [k]) r = _; rw [if_neg h, e, List.append_assoc]; rfl⟩
theorem add_nod (found : List (Option α)) : ∀ {keys : List α}, keys.Nodup → (add keys found).Nodup := by
  induction found with
  | nil => exact fun h => h
  | cons o r ih =>
    intro keys nd
    cases o with
    | none => exact ih nd
    | some k =>
      show (add (if k ∈ keys then keys else keys ++ [k]) r).Nodup
      by_cases h : k ∈ keys
      · rw [if_pos h]; exact ih nd
      · rw [if_neg h]
        exact ih (List.nodup_append.mpr ⟨nd, by simp, fun a ha b hb e => h (by rw [← List.mem_singleton.mp hb, ← e]; exact ha)⟩)
theorem add_old (found : List (Option α)) {keys : List α} {k : α} (h : k ∈ keys) : k ∈ add keys found := by
  obtain ⟨m, e⟩ := add_app found keys
  rw [e]; exact List.mem_append_left _ h
theorem add_mem (found : List (Option α)) : ∀ {keys : List α} {k : α}, some k ∈ found → k ∈ add keys found := by
  induction found with
  | nil => exact fun h => nomatch h
  | cons o r ih =>
    intro keys k h
    rcases List.mem_cons.mp h with e | h2
    · subst e
      show k ∈ add (if k ∈ keys then keys else keys ++ [k]) r
      refine add_old r ?_
      by_cases c : k ∈ keys
      · rw [if_pos c]; exact c
      · rw [if_neg c]; exact List.mem_append_right _ (by simp)
    · cases o with
      | none => exact ih (keys := keys) h2
      | some x => exact ih (keys := if x ∈ keys then keys else keys ++ [x]) h2
/-- what is met comes of what was there or of the row -/
theorem add_in (found : List (Option α)) : ∀ {keys : List α} {k : α}, k ∈ add keys found → k ∈ keys ∨ some k ∈ found := by
  induction found with
  | nil => exact fun h => .inl h
  | cons o r ih =>
    intro keys k h
    cases o with
    | none => exact (ih h).imp id (List.mem_cons_of_mem _)
    | some x =>
      have h : k ∈ add (if x ∈ keys then keys else keys ++ [x]) r := h
      rcases ih h with h | h
      · by_cases c : x ∈ keys
        · rw [if_pos c] at h; exact .inl h
        · rw [if_neg c] at h
          rcases List.mem_append.mp h with h | h
          · exact .inl h
          · rw [List.mem_singleton.mp h]; exact .inr List.mem_cons_self
      · exact .inr (List.mem_cons_of_mem _ h)
theorem idx_app {keys more : List α} {k : α} (h : k ∈ keys) : (keys ++ more).idxOf k = keys.idxOf k := by
  rw [List.idxOf_append, if_pos h]
theorem idx_map {f : α → β} (inj : ∀ a b, f a = f b → a = b) (k : α) : ∀ keys : List α, (keys.map f).idxOf (f k) = keys.idxOf k
  | [] => rfl
  | x :: r => by
    rw [List.map_cons, List.idxOf_cons, List.idxOf_cons, idx_map inj k r]
    by_cases c : x = k
    · subst c; simp
    · have c' : ¬ f x = f k := fun z => c (inj _ _ z)
      have b1 : (x == k) = false := by simpa using c
      have b2 : (f x == f k) = false := by simpa using c'
      rw [b1, b2]
theorem mem_map {f : α → β} (inj : ∀ a b, f a = f b → a = b) {k : α} {keys : List α} : f k ∈ keys.map f ↔ k ∈ keys :=
  ⟨fun h => by
    obtain ⟨x, hx, e⟩ := List.mem_map.mp h
    rw [← inj _ _ e]; exact hx, fun h => List.mem_map.mpr ⟨k, h, rfl⟩⟩
theorem add_map {f : α → β} (inj : ∀ a b, f a = f b → a = b) (found : List (Option α)) : ∀ keys : List α, add (keys.map f) (found.map (Option.map f)) = (add keys found).map f := by
  induction found with
  | nil => exact fun _ => rfl
  | cons o r ih =>
    intro keys
    cases o with
    | none => exact ih keys
    | some k =>
      show add (if f k ∈ keys.map f then keys.map f else keys.map f ++ [f k]) (r.map (Option.map f)) = (add (if k ∈ keys then keys else keys ++ [k]) r).map f
      by_cases c : k ∈ keys
      · rw [if_pos c, if_pos ((mem_map inj).mpr c)]; exact ih keys
      · rw [if_neg c, if_neg (fun z => c ((mem_map inj).mp z)), ← ih (keys ++ [k]), List.map_append]; rfl
theorem row_map {f : α → β} (inj : ∀ a b, f a = f b → a = b) (keys : List α) (found : List (Option α)) : row (keys.map f) (found.map (Option.map f)) = row keys found := by
  unfold row
  rw [List.map_map]
  refine List.map_congr_left fun o _ => ?_
  cases o with
  | none => rfl
  | some k => exact congrArg some (idx_map inj k keys)
/-- states called otherwise are met in the same order, and their rows are the same -/
theorem run_map {f : α → β} (inj : ∀ a b, f a = f b → a = b) {cells : α → List (Option α)} {cells' : β → List (Option β)} (h : ∀ k, cells' (f k) = (cells k).map (Option.map f)) (first : α) : ∀ n, run cells' (f first) n = ((run cells first n).1.map f, (run cells first n).2)
  | 0 => rfl
  | n + 1 => by
    have ih := run_map inj h first n
    unfold run
    rw [ih]
    dsimp only
    rw [List.getElem?_map]
    cases (run cells first n).1[n]? with
    | none => rfl
    | some k =>
      dsimp only [Option.map_some]
      rw [h, add_map inj, row_map inj]
theorem run_len {cells : α → List (Option α)} {first : α} : ∀ n, n ≤ (run cells first n).1.length → (run cells first n).2.length = n ∧ (run cells first n).1.Nodup
  | 0, _ => ⟨rfl, by simp [run]⟩
  | n + 1, h => by
    unfold run at h ⊢
    cases e : (run cells first n).1[n]? with
    | none =>
      rw [e] at h
      dsimp only at h
      have := List.getElem?_eq_none_iff.mp e
      omega
    | some k =>
      have hn := (List.getElem?_eq_some_iff.mp e).1
      obtain ⟨i1, i2⟩ := run_len (cells := cells) (first := first) n (by omega)
      exact ⟨by rw [List.length_append, i1]; rfl, add_nod _ i2⟩
end
end Bf

/-! parts that are made finer till their number stays -/
namespace Mo
theorem full : ∀ {B C : List Nat}, B.Nodup → (∀ x ∈ B, x ∈ C) → C.length ≤ B.length → C.Nodup ∧ ∀ x ∈ C, x ∈ B
  | [], C, _, _, h => by
    have : C = [] := List.length_eq_zero_iff.mp (Nat.le_zero.mp h)
    subst this
    exact ⟨List.nodup_nil, fun _ h => h⟩
  | b :: r, C, nd, sub, h => by
    have nd' := List.nodup_cons.mp nd
    have bC := sub b List.mem_cons_self
    have pm := List.perm_cons_erase bC
    have le : (C.erase b).length ≤ r.length := by
      have := pm.length_eq
      rw [List.length_cons] at this
      rw [List.length_cons] at h
      omega
    have sub' : ∀ x ∈ r, x ∈ C.erase b := fun x hx => by
      have hxC := sub x (List.mem_cons_of_mem _ hx)
      rcases List.mem_cons.mp (pm.mem_iff.mp hxC) with e | h2
      · exact absurd (by rw [← e]; exact hx) nd'.1
      · exact h2
    obtain ⟨i1, i2⟩ := full nd'.2 sub' le
    refine ⟨pm.nodup_iff.mpr (List.nodup_cons.mpr ⟨fun z => nd'.1 (i2 b z), i1⟩), fun x hx => ?_⟩
    rcases List.mem_cons.mp (pm.mem_iff.mp hx) with e | h2
    · rw [e]; exact List.mem_cons_self
    · exact List.mem_cons_of_mem _ (i2 x h2)
theorem inj_of {g : Nat → Nat} {A : List Nat} (h : (A.map g).Nodup) {a b : Nat} (ha : a ∈ A) (hb : b ∈ A) (e : g a = g b) : a = b := by
  obtain ⟨i, hi⟩ := List.mem_iff_getElem?.mp ha
  obtain ⟨j, hj⟩ := List.mem_iff_getElem?.mp hb
  have h1 : (A.map g)[i]? = some (g a) := by rw [List.getElem?_map, hi]; rfl
  have h2 : (A.map g)[j]? = some (g a) := by rw [List.getElem?_map, hj, e]; rfl
  have il := (List.getElem?_eq_some_iff.mp h1).1
  have := (List.getElem?_inj il h).mp (h1.trans h2.symm)
  rw [this, hj] at hi
  exact (Option.some.inj hi).symm
/-- A: the numbers that f gives on L, each once -/
def Vals {α : Type} (L : List α) (f : α → Nat) (A : List Nat) : Prop := A.Nodup ∧ ∀ x, x ∈ A ↔ ∃ s ∈ L, f s = x
theorem Vals.len {α : Type} {L : List α} {f : α → Nat} {A A' : List Nat} (h : Vals L f A) (h' : Vals L f A') : A.length = A'.length :=
  ((List.perm_ext_iff_of_nodup h.1 h'.1).mpr fun x => (h.2 x).trans (h'.2 x).symm).length_eq
/-- finer numbers are no fewer; as many, they tell the same parts -/
theorem finer {α : Type} {L : List α} {p f : α → Nat} {A B : List Nat} (hA : Vals L f A) (hB : Vals L p B) (r : ∀ s ∈ L, ∀ t ∈ L, f s = f t → p s = p t) : B.length ≤ A.length ∧ (A.length ≤ B.length → ∀ s ∈ L, ∀ t ∈ L, p s = p t → f s = f t) := by
  classical
  let g : Nat → Nat := fun x => if h : ∃ s ∈ L, f s = x then p h.choose else 0
  have gf : ∀ s ∈ L, g (f s) = p s := fun s hs => by
    have h : ∃ t ∈ L, f t = f s := ⟨s, hs, rfl⟩
    show (if h : ∃ t ∈ L, f t = f s then p h.choose else 0) = p s
    rw [dif_pos h]
    exact r _ h.choose_spec.1 s hs h.choose_spec.2
  have sub : ∀ x ∈ B, x ∈ A.map g := fun x hx => by
    obtain ⟨s, hs, rfl⟩ := (hB.2 x).mp hx
    exact List.mem_map.mpr ⟨f s, (hA.2 _).mpr ⟨s, hs, rfl⟩, gf s hs⟩
  have le : B.length ≤ A.length := by
    rcases Nat.le_total B.length A.length with h | h
    · exact h
    · have := full hB.1 sub (by rw [List.length_map]; exact h)
      have pm := (List.perm_ext_iff_of_nodup this.1 hB.1).mpr fun x => ⟨this.2 x, sub x⟩
      have := pm.length_eq
      rw [List.length_map] at this
      omega
  refine ⟨le, fun h s hs t ht e => ?_⟩
  have nd := (full hB.1 sub (by rw [List.length_map]; exact h)).1
  exact inj_of nd ((hA.2 _).mpr ⟨s, hs, rfl⟩) ((hA.2 _).mpr ⟨t, ht, rfl⟩) (by rw [gf s hs, gf t ht, e])
/-- never more parts than states -/
theorem Vals.le {α : Type} {L : List α} {f : α → Nat} {A : List Nat} (h : Vals L f A) : A.length ≤ L.length := by
  have sub : ∀ x ∈ A, x ∈ L.map f := fun x hx => by
    obtain ⟨s, hs, e⟩ := (h.2 x).mp hx
    exact List.mem_map.mpr ⟨s, hs, e⟩
  rcases Nat.le_total A.length L.length with c | c
  · exact c
  · have := full h.1 sub (by rw [List.length_map]; exact c)
    have pm := (List.perm_ext_iff_of_nodup this.1 h.1).mpr fun x => ⟨this.2 x, sub x⟩
    have := pm.length_eq
    rw [List.length_map] at this
    omega
/-- rows of parts -/
def rowP {α : Type} (p : α → Nat) (row : List (Option α)) : List (Option Nat) := row.map (Option.map p)
/-- a step that makes the parts finer by their rows and leaves their number keeps alike what is alike -/
theorem stable {α : Type} {L : List α} {p f : α → Nat} {A B : List Nat} {cells : α → List (Option α)} (hA : Vals L f A) (hB : Vals L p B) (cl : ∀ s ∈ L, ∀ t, some t ∈ cells s → t ∈ L)
    (st : ∀ s ∈ L, ∀ t ∈ L, f s = f t ↔ p s = p t ∧ rowP p (cells s) = rowP p (cells t)) (same : A.length = B.length) {s t : α} (hs : s ∈ L) (ht : t ∈ L) (e : f s = f t) : rowP f (cells s) = rowP f (cells t) := by
  have rf : ∀ s ∈ L, ∀ t ∈ L, f s = f t → p s = p t := fun s hs t ht e => ((st s hs t ht).mp e).1
  have back := (finer hA hB rf).2 (by omega)
  have rows := ((st s hs t ht).mp e).2
  unfold rowP at rows ⊢
  have ll : (cells s).length = (cells t).length := by
    have := congrArg List.length rows
    rwa [List.length_map, List.length_map] at this
  refine List.ext_getElem (by rw [List.length_map, List.length_map, ll]) fun i h1 h2 => ?_
  rw [List.length_map] at h1 h2
  have ei := congrArg (fun l => l[i]?) rows
  rw [List.getElem?_map, List.getElem?_map, List.getElem?_eq_getElem h1, List.getElem?_eq_getElem h2] at ei
  have ei := Option.some.inj ei
  rw [List.getElem_map, List.getElem_map]
  have m1 := List.getElem_mem h1
  have m2 := List.getElem_mem h2
  generalize (cells s)[i] = o1 at ei m1 ⊢
  generalize (cells t)[i] = o2 at ei m2 ⊢
  cases o1 with
  | none =>
    cases o2 with
    | none => rfl
    | some y => cases ei
  | some x =>
    cases o2 with
    | none => cases ei
    | some y => exact congrArg some (back x (cl s hs x m1) y (cl t ht y m2) (Option.some.inj ei))
end Mo

/-! the law's least form of a stretch: its parts are its states -/
namespace Sx
def cells (B : Nat) (w : Int) (s : St) : List (Option St) := (List.range B).map fun (d : Nat) => step (B : Int) w (d : Int) s
def pcells (B : Nat) (p q : Int) (s : St) : List (Option St) := (List.range B).map fun (d : Nat) => pstep (B : Int) p q (d : Int) s
theorem cells_at {B : Nat} {w : Int} {s : St} {d : Nat} (h : d < B) : (cells B w s)[d]? = some (step (B : Int) w (d : Int) s) := by
  unfold cells
  rw [List.getElem?_map, List.getElem?_range h]; rfl
theorem cells_phi {B : Nat} {p q : Int} (hp : 0 < p) (hq : 0 < q) (s : St) : cells B (p * q) (phi p q s) = (pcells B p q s).map (Option.map (phi p q)) := by
  unfold cells pcells
  rw [List.map_map]
  refine List.map_congr_left fun d _ => ?_
  exact pstep_phi hp hq s
/-- parts that tell alike rows tell the states -/
theorem part_inj {B : Nat} {w : Int} (hB : 2 ≤ B) (hw : 0 < w) {L : List St} {f : St → Nat} (al : ∀ s ∈ L, Al w s) (cl : ∀ s ∈ L, ∀ t, some t ∈ cells B w s → t ∈ L)
    (rows : ∀ s ∈ L, ∀ t ∈ L, f s = f t → Mo.rowP f (cells B w s) = Mo.rowP f (cells B w t)) : ∀ s ∈ L, ∀ t ∈ L, f s = f t → s = t := fun s hs t ht e => by
  have hB' : (2 : Int) ≤ (B : Int) := by omega
  have key : ∀ s t (d : Int), (s ∈ L ∧ t ∈ L ∧ f s = f t) → 0 ≤ d → d < (B : Int) → (step (B : Int) w d s).map f = (step (B : Int) w d t).map f := fun s t d r d0 d1 => by
    obtain ⟨dn, rfl⟩ : ∃ n : Nat, d = (n : Int) := ⟨d.toNat, by omega⟩
    have hd : dn < B := by omega
    have h := congrArg (fun l : List (Option Nat) => l[dn]?) (rows s r.1 t r.2.1 r.2.2)
    unfold Mo.rowP at h
    rw [List.getElem?_map, List.getElem?_map, cells_at hd, cells_at hd] at h
    exact Option.some.inj h
  have stay : ∀ s (d : Int), s ∈ L → 0 ≤ d → d < (B : Int) → ∀ s', step (B : Int) w d s = some s' → s' ∈ L := fun s d hs d0 d1 s' e => by
    obtain ⟨dn, rfl⟩ : ∃ n : Nat, d = (n : Int) := ⟨d.toNat, by omega⟩
    exact cl s hs s' (List.mem_of_getElem? ((cells_at (by omega)).trans (congrArg some e)))
  have bis : Bis (B : Int) w (fun s t => s ∈ L ∧ t ∈ L ∧ f s = f t) := by
    refine ⟨fun s t r => ⟨al s r.1, al t r.2.1⟩, fun s t d r d0 d1 => ?_, fun s t d s' t' r d0 d1 es et => ?_⟩
    · have k := key s t d r d0 d1
      constructor
      · intro z
        rw [z] at k
        cases et : step (B : Int) w d t with
        | none => rfl
        | some _ => rw [et] at k; cases k
      · intro z
        rw [z] at k
        cases es : step (B : Int) w d s with
        | none => rfl
        | some _ => rw [es] at k; cases k
    · have k := key s t d r d0 d1
      rw [es, et] at k
      exact ⟨stay s d r.1 d0 d1 s' es, stay t d r.2.1 d0 d1 t' et, Option.some.inj k⟩
  exact bis.eq hB' hw (fun s t r => ⟨r.2.1, r.1, r.2.2.symm⟩) ⟨hs, ht, e⟩
/-- no state is left out: each has a cell that goes on -/
theorem cells_goes {B : Nat} {w : Int} {s : St} (hB : 2 ≤ B) (hw : 0 < w) (a : Al w s) : ∃ t, some t ∈ cells B w s := by
  obtain ⟨d, d0, d1, t, e⟩ := a.goes (show (2 : Int) ≤ (B : Int) by omega) hw
  obtain ⟨dn, rfl⟩ : ∃ n : Nat, d = (n : Int) := ⟨d.toNat, by omega⟩
  exact ⟨t, List.mem_of_getElem? ((cells_at (by omega)).trans (congrArg some e))⟩
theorem cells_al {B : Nat} {w : Int} {s t : St} (hw : 0 < w) (a : Al w s) (h : some t ∈ cells B w s) : Al w t := by
  unfold cells at h
  obtain ⟨d, _, e⟩ := List.mem_map.mp h
  exact a.step (show (0 : Int) ≤ (B : Int) by omega) (by omega) e
/-- the program goes through the same states, called otherwise: the same rows -/
theorem rows_same {B : Nat} {p q : Int} (hp : 0 < p) (hq : 0 < q) (s : St) (n : Nat) : (Bf.run (cells B (p * q)) (phi p q s) n).2 = (Bf.run (pcells B p q) s n).2 ∧ (Bf.run (cells B (p * q)) (phi p q s) n).1.length = (Bf.run (pcells B p q) s n).1.length := by
  have := Bf.run_map (f := phi p q) (fun a b e => phi_inj hp hq e) (cells' := cells B (p * q)) (cells := pcells B p q) (cells_phi hp hq) s n
  rw [this]
  exact ⟨rfl, List.length_map _⟩
end Sx
namespace Bf
section
variable {α β : Type} [DecidableEq α] [DecidableEq β]
/-- as idx_map, for a list of things that f tells apart -/
theorem idx_on {f : α → β} {L : List α} (inj : ∀ a ∈ L, ∀ b ∈ L, f a = f b → a = b) {k : α} (hk : k ∈ L) : ∀ keys : List α, (∀ x ∈ keys, x ∈ L) → (keys.map f).idxOf (f k) = keys.idxOf k
  | [], _ => rfl
  | x :: r, h => by
    rw [List.map_cons, List.idxOf_cons, List.idxOf_cons, idx_on inj hk r fun y hy => h y (List.mem_cons_of_mem _ hy)]
    by_cases c : x = k
    · subst c; simp
    · have c' : ¬ f x = f k := fun z => c (inj _ (h x List.mem_cons_self) _ hk z)
      have b1 : (x == k) = false := by simpa using c
      have b2 : (f x == f k) = false := by simpa using c'
      rw [b1, b2]
theorem mem_on {f : α → β} {L : List α} (inj : ∀ a ∈ L, ∀ b ∈ L, f a = f b → a = b) {k : α} (hk : k ∈ L) {keys : List α} (h : ∀ x ∈ keys, x ∈ L) : f k ∈ keys.map f ↔ k ∈ keys :=
  ⟨fun z => by
    obtain ⟨x, hx, e⟩ := List.mem_map.mp z
    rw [← inj _ (h x hx) _ hk e]; exact hx, fun z => List.mem_map.mpr ⟨k, z, rfl⟩⟩
/-- all keys that are met lie where the first one lies -/
theorem run_in {cells : α → List (Option α)} {first : α} {L : List α} (h0 : first ∈ L) (cl : ∀ s ∈ L, ∀ t, some t ∈ cells s → t ∈ L) : ∀ n, ∀ x ∈ (run cells first n).1, x ∈ L
  | 0 => fun x hx => by
    rw [List.mem_singleton.mp hx]; exact h0
  | n + 1 => fun x hx => by
    have ih := run_in h0 cl n
    unfold run at hx
    cases e : (run cells first n).1[n]? with
    | none => rw [e] at hx; exact ih x hx
    | some k =>
      rw [e] at hx
      rcases add_in _ hx with h | h
      · exact ih x h
      · exact cl k (ih k (List.mem_of_getElem? e)) x h
end
end Bf

set_option linter.all false
/-! going through all states, by a pile; the run's end; a point's walk along the rows -/
namespace Bf
section
variable {α β : Type} [DecidableEq α] [DecidableEq β]
/-- no more than the things of a list, each once -/
theorem nd_le : ∀ {B C : List α}, B.Nodup → (∀ x ∈ B, x ∈ C) → B.length ≤ C.length
  | [], C, _, _ => Nat.zero_le _
  | b :: r, C, nd, sub => by
    have nd' := List.nodup_cons.mp nd
    have bC := sub b List.mem_cons_self
    have pm := List.perm_cons_erase bC
    have sub' : ∀ x ∈ r, x ∈ C.erase b := fun x hx => by
      rcases List.mem_cons.mp (pm.mem_iff.mp (sub x (List.mem_cons_of_mem _ hx))) with e | h2
      · exact absurd (by rw [← e]; exact hx) nd'.1
      · exact h2
    have i := nd_le nd'.2 sub'
    have := pm.length_eq
    rw [List.length_cons] at this ⊢
    omega
/-- L: what has been gone through; T: the pile -/
structure Df (cells : α → List (Option α)) (start : α) (P : α → Prop) (L T : List α) : Prop where
  nd : L.Nodup
  cl : ∀ s ∈ L, ∀ t, some t ∈ cells s → t ∈ L ∨ t ∈ T
  st : start ∈ L ∨ start ∈ T
  al : ∀ s, s ∈ L ∨ s ∈ T → P s
variable {cells : α → List (Option α)} {start : α} {P : α → Prop} {L T : List α} {t : α}
theorem Df.one (h : P start) : Df cells start P [] [start] := ⟨List.nodup_nil, (fun _ h => nomatch h), .inr (by simp), fun s hs => by
  rcases hs with h | h
  · cases h
  · rw [List.mem_singleton.mp h]; assumption⟩
theorem Df.old (d : Df cells start P L (T ++ [t])) (h : t ∈ L) : Df cells start P L T := by
  have key : ∀ x, x ∈ L ∨ x ∈ T ++ [t] → x ∈ L ∨ x ∈ T := fun x hx => by
    rcases hx with z | z
    · exact .inl z
    · rcases List.mem_append.mp z with z | z
      · exact .inr z
      · rw [List.mem_singleton.mp z]; exact .inl h
  exact ⟨d.nd, fun s hs x hx => key x (d.cl s hs x hx), key _ d.st, fun s hs => d.al s (hs.imp id (List.mem_append_left _))⟩
theorem Df.new (d : Df cells start P L (T ++ [t])) (h : t ∉ L) (cp : ∀ s x, P s → some x ∈ cells s → P x) : Df cells start P (L ++ [t]) (T ++ (cells t).filterMap id) := by
  have pt : P t := d.al t (.inr (by simp))
  have fm : ∀ x, some x ∈ cells t → x ∈ (cells t).filterMap id := fun x hx => List.mem_filterMap.mpr ⟨some x, hx, rfl⟩
  have key : ∀ x, x ∈ L ∨ x ∈ T ++ [t] → x ∈ L ++ [t] ∨ x ∈ T ++ (cells t).filterMap id := fun x hx => by
    rcases hx with z | z
    · exact .inl (List.mem_append_left _ z)
    · rcases List.mem_append.mp z with z | z
      · exact .inr (List.mem_append_left _ z)
      · exact .inl (List.mem_append_right _ z)
  refine ⟨List.nodup_append.mpr ⟨d.nd, by simp, fun a ha b hb e => h (by rw [← List.mem_singleton.mp hb, ← e]; exact ha)⟩, fun s hs x hx => ?_, key _ d.st, fun s hs => ?_⟩
  · rcases List.mem_append.mp hs with z | z
    · exact key x (d.cl s z x hx)
    · rw [List.mem_singleton.mp z] at hx
      exact .inr (List.mem_append_right _ (fm x hx))
  · rcases hs with z | z
    · rcases List.mem_append.mp z with z | z
      · exact d.al s (.inl z)
      · rw [List.mem_singleton.mp z]; exact pt
    · rcases List.mem_append.mp z with z | z
      · exact d.al s (.inr (List.mem_append_left _ z))
      · obtain ⟨o, ho, e⟩ := List.mem_filterMap.mp z
        have e : o = some s := e
        rw [e] at ho
        exact cp t s pt ho
/-! the run's end -/
theorem run_stop {first : α} {n : Nat} (h : (run cells first n).1.length = n) : ∀ k, n ≤ k → run cells first k = run cells first n
  | 0, hk => by rw [show n = 0 by omega]
  | k + 1, hk => by
    rcases Nat.lt_or_ge k n with c | c
    · rw [show k + 1 = n by omega]
    · have ih := run_stop h k c
      conv => lhs; unfold run
      rw [ih, List.getElem?_eq_none (by omega)]
theorem run_one {first : α} {n m : Nat} (h : (run cells first n).1.length = n) (h' : (run cells first m).1.length = m) : n = m := by
  rcases Nat.le_total n m with c | c
  · have := run_stop h m c
    rw [this] at h'; omega
  · have := run_stop h' n c
    rw [this] at h; omega
theorem run_next {first : α} {n : Nat} {k : α} (h : (run cells first n).1[n]? = some k) : run cells first (n + 1) = (add (run cells first n).1 (cells k), (run cells first n).2 ++ [row (add (run cells first n).1 (cells k)) (cells k)]) := by
  conv => lhs; unfold run
  rw [h]
theorem row_app {keys more found : List α} : True := trivial
theorem row_more {keys more : List α} {found : List (Option α)} (h : ∀ k, some k ∈ found → k ∈ keys) : row (keys ++ more) found = row keys found := by
  unfold row
  refine List.map_congr_left fun o ho => ?_
  cases o with
  | none => rfl
  | some k => exact congrArg some (idx_app (h k ho))
theorem run_at {first : α} : ∀ n, n ≤ (run cells first n).1.length → ∀ c k, c < n → (run cells first n).1[c]? = some k → (run cells first n).2[c]? = some (row (run cells first n).1 (cells k)) ∧ ∀ t, some t ∈ cells k → t ∈ (run cells first n).1
  | 0, _, c, k, hc, _ => by omega
  | n + 1, hn, c, k, hc, hk => by
    cases e : (run cells first n).1[n]? with
    | none =>
      have e2 : run cells first (n + 1) = run cells first n := by
        conv => lhs; unfold run
        rw [e]
      have := List.getElem?_eq_none_iff.mp e
      rw [e2] at hn
      omega
    | some k0 =>
      have hl := (List.getElem?_eq_some_iff.mp e).1
      rw [run_next e] at hk ⊢
      dsimp only at hk ⊢
      obtain ⟨more, em⟩ := add_app (cells k0) (run cells first n).1
      have l2 := (run_len (cells := cells) (first := first) n (by omega)).1
      rcases Nat.lt_or_ge c n with h | h
      · rw [em, List.getElem?_append_left (by omega)] at hk
        obtain ⟨i1, i2⟩ := run_at n (by omega) c k h hk
        refine ⟨?_, fun t ht => by rw [em]; exact List.mem_append_left _ (i2 t ht)⟩
        rw [List.getElem?_append_left (by omega), i1, em, row_more i2]
      · have : c = n := by omega
        subst this
        rw [em, List.getElem?_append_left hl, e] at hk
        cases hk
        refine ⟨?_, fun t ht => add_mem _ ht⟩
        rw [List.getElem?_append_right (by omega), l2, Nat.sub_self]; rfl
end
end Bf
namespace Sx
/-- the walk along the rows: the number of the cell, and the point -/
theorem walk_same {B w m : Int} {s : St} {n : Int} (hB : 2 ≤ B) (hw : 0 < w) (hm : 0 < m) (h0 : 0 ≤ n) (h1 : n ≤ m) {j k : Nat} {t : St} (hj : j < k) (ek : (walk B w m s n k).1 = some t) (ej : (walk B w m s n j).1 = some t) (ep : (walk B w m s n k).2 = (walk B w m s n j).2) : Ins w n m s := by
  refine ins_far.mpr ?_
  rcases Int.lt_or_le 0 (far w n m s) with c | c
  · have := walk_out hB hw hm h0 h1 c k j t t hj ek ej
    rw [ep] at this
    exact absurd this (Int.lt_irrefl _)
  · exact c
theorem walk_next {B w m : Int} {s t : St} {n : Int} {k : Nat} (e : (walk B w m s n k).1 = some t) : walk B w m s n (k + 1) = (step B w (min (B - 1) ((walk B w m s n k).2 * B / m)) t, (walk B w m s n k).2 * B - min (B - 1) ((walk B w m s n k).2 * B / m) * m) := by
  conv => lhs; unfold walk
  rw [e]
theorem Al.of {p q : Int} (hp : 0 < p) (hq : 0 < q) {s : St} (h : Al (p * q) (phi p q s)) : 0 ≤ s.1 ∧ s.1 ≤ p ∧ 0 ≤ s.2 ∧ s.2 ≤ q := by
  have h1 := h.b
  have h2 := h.be
  have h3 := h.e
  unfold phi at h1 h2 h3
  dsimp only at h1 h2 h3
  have g1 : 0 ≤ s.2 * p := Int.le_trans h1 h2
  have g2 : s.1 * q ≤ p * q := Int.le_trans h2 h3
  refine ⟨?_, Int.le_of_mul_le_mul_right g2 hq, ?_, ?_⟩
  · refine Int.le_of_mul_le_mul_right (a := q) ?_ hq
    rw [Int.zero_mul]; exact h1
  · refine Int.le_of_mul_le_mul_right (a := p) ?_ hp
    rw [Int.zero_mul]; exact g1
  · refine Int.le_of_mul_le_mul_right (a := p) ?_ hp
    rw [Int.mul_comm q p]; exact h3
/-- pairs up to p and q -/
def box (p q : Nat) : List St := (List.range (p + 1)).flatMap fun a => (List.range (q + 1)).map fun b => (((a : Nat) : Int), ((b : Nat) : Int))
theorem box_len (p q : Nat) : (box p q).length = (p + 1) * (q + 1) := by
  unfold box
  rw [List.length_flatMap]
  have : ((List.range (p + 1)).map fun a => ((List.range (q + 1)).map fun b => (((a : Nat) : Int), ((b : Nat) : Int))).length) = List.replicate (p + 1) (q + 1) := by
    refine List.ext_getElem (by simp) fun i h1 h2 => ?_
    simp
  rw [this, List.sum_replicate_nat]
theorem box_mem {p q : Nat} {s : St} (h : 0 ≤ s.1 ∧ s.1 ≤ p ∧ 0 ≤ s.2 ∧ s.2 ≤ q) : s ∈ box p q := by
  obtain ⟨a, b⟩ := s
  obtain ⟨h1, h2, h3, h4⟩ := h
  dsimp only at h1 h2 h3 h4
  refine List.mem_flatMap.mpr ⟨a.toNat, List.mem_range.mpr (by omega), List.mem_map.mpr ⟨b.toNat, List.mem_range.mpr (by omega), ?_⟩⟩
  rw [Int.toNat_of_nonneg h1, Int.toNat_of_nonneg h3]
end Sx

set_option linter.all false
/-! parts made finer: the marks as they are met -/
namespace Mo
section
variable {α β : Type} [DecidableEq α] [DecidableEq β]
/-- the things of a list, each once, as they come -/
def dist (l : List β) : List β := Bf.add [] (l.map some)
theorem add_snoc (l : List (Option β)) (x : β) : ∀ keys : List β, Bf.add keys (l ++ [some x]) = if x ∈ Bf.add keys l then Bf.add keys l else Bf.add keys l ++ [x] := by
  induction l with
  | nil => exact fun keys => rfl
  | cons o r ih =>
    intro keys
    cases o with
    | none => exact ih keys
    | some k => exact ih _
theorem dist_snoc (l : List β) (x : β) : dist (l ++ [x]) = if x ∈ dist l then dist l else dist l ++ [x] := by
  unfold dist
  rw [List.map_append]
  exact add_snoc _ x []
theorem dist_nd (l : List β) : (dist l).Nodup := Bf.add_nod _ List.nodup_nil
theorem dist_mem {l : List β} {x : β} : x ∈ dist l ↔ x ∈ l := by
  constructor
  · intro h
    rcases Bf.add_in _ h with z | z
    · cases z
    · obtain ⟨y, hy, e⟩ := List.mem_map.mp z
      cases e; exact hy
  · intro h
    exact Bf.add_mem _ (List.mem_map.mpr ⟨x, h, rfl⟩)
theorem add_split (l m : List (Option β)) : ∀ keys : List β, Bf.add keys (l ++ m) = Bf.add (Bf.add keys l) m := by
  induction l with
  | nil => exact fun keys => rfl
  | cons o r ih =>
    intro keys
    cases o with
    | none => exact ih keys
    | some k => exact ih _
theorem dist_app (l m : List β) : ∃ more, dist (l ++ m) = dist l ++ more := by
  unfold dist
  rw [List.map_append, add_split]
  exact Bf.add_app _ _
theorem dist_idx {l : List β} {x : β} (h : x ∈ l) (m : List β) : (dist (l ++ m)).idxOf x = (dist l).idxOf x := by
  obtain ⟨more, e⟩ := dist_app l m
  rw [e]
  exact Bf.idx_app (dist_mem.mpr h)
theorem dist_len (l : List β) : (dist l).length ≤ l.length := Bf.nd_le (dist_nd l) fun x hx => dist_mem.mp hx
theorem vals_dist (L : List α) (f : α → Nat) : Vals L f (dist (L.map f)) := ⟨dist_nd _, fun x => by
  rw [dist_mem]
  exact List.mem_map⟩
/-- a thing's place -/
def pos (l : List β) (x : β) : Nat := l.idxOf x
theorem pos_lt {l : List β} {x : β} (h : x ∈ l) : pos l x < l.length := List.idxOf_lt_length_iff.mpr h
theorem pos_inj {l : List β} {a b : β} (ha : a ∈ l) (e : pos l a = pos l b) : a = b := by
  unfold pos at e
  have h1 := List.getElem_idxOf (List.idxOf_lt_length_iff.mpr ha)
  have hb : l.idxOf b < l.length := by rw [← e]; exact List.idxOf_lt_length_iff.mpr ha
  have h2 := List.getElem_idxOf hb
  rw [← h1, ← h2]
  congr 1
/-- a state's mark: its part, and its row's parts -/
abbrev Mark := Nat × List (Option Nat)
def mark (cells : α → List (Option α)) (f : α → Nat) (s : α) : Mark := (f s, rowP f (cells s))
/-- the next parts -/
def fin1 (cells : α → List (Option α)) (L : List α) (f : α → Nat) (s : α) : Nat := pos (dist (L.map (mark cells f))) (mark cells f s)
theorem fin1_iff {cells : α → List (Option α)} {L : List α} {f : α → Nat} {s t : α} (hs : s ∈ L) : fin1 cells L f s = fin1 cells L f t ↔ f s = f t ∧ rowP f (cells s) = rowP f (cells t) := by
  constructor
  · intro h
    have ms : mark cells f s ∈ dist (L.map (mark cells f)) := dist_mem.mpr (List.mem_map.mpr ⟨s, hs, rfl⟩)
    have := pos_inj ms h
    exact ⟨congrArg (·.1) this, congrArg (·.2) this⟩
  · rintro ⟨h1, h2⟩
    unfold fin1 mark
    rw [h1, h2]
def many (L : List α) (f : α → Nat) : Nat := (dist (L.map f)).length
theorem fin1_lt {cells : α → List (Option α)} {L : List α} {f : α → Nat} {s : α} (hs : s ∈ L) : fin1 cells L f s < L.length := by
  have h := pos_lt (dist_mem.mpr (List.mem_map.mpr ⟨s, hs, rfl⟩) : mark cells f s ∈ dist (L.map (mark cells f)))
  have := dist_len (L.map (mark cells f))
  rw [List.length_map] at this
  unfold fin1
  omega
theorem many_le {cells : α → List (Option α)} {L : List α} {f : α → Nat} : many L f ≤ many L (fin1 cells L f) :=
  (finer (vals_dist L (fin1 cells L f)) (vals_dist L f) fun s hs t ht h => ((fin1_iff hs).mp h).1).1
theorem many_lt (L : List α) (f : α → Nat) : many L f ≤ L.length := by
  have := dist_len (L.map f)
  rwa [List.length_map] at this
theorem many_pos {L : List α} (h : L ≠ []) (f : α → Nat) : 0 < many L f := by
  cases L with
  | nil => exact absurd rfl h
  | cons s r =>
    have : f s ∈ dist ((s :: r).map f) := dist_mem.mpr (by simp)
    exact List.length_pos_of_mem this
/-- where the number of parts stays, the parts keep the rows -/
theorem fin1_stop {cells : α → List (Option α)} {L : List α} {f : α → Nat} (cl : ∀ s ∈ L, ∀ t, some t ∈ cells s → t ∈ L) (h : many L f = many L (fin1 cells L f)) :
    ∀ s ∈ L, ∀ t ∈ L, fin1 cells L f s = fin1 cells L f t → rowP (fin1 cells L f) (cells s) = rowP (fin1 cells L f) (cells t) := fun s hs t ht e =>
  stable (vals_dist L (fin1 cells L f)) (vals_dist L f) cl (fun s hs t _ => fin1_iff hs) h.symm hs ht e
end
end Mo

set_option linter.all false
namespace My
open PySem PySem.Spec PyProof.Rows L2
/-! ### dicts that may be read, changed ones or such as stand still -/
def DR (w : World) (H : Hp) (d : Addr) (kvs : List Kvv) : Prop := DN w H d kvs ∨ DF w H d kvs
section
variable {X : Cx} {pins : List (Addr × Obj)} {σ : L2.St} {H : Hp} {s : Shared}
theorem DR.raw {d : Addr} {kvs : List Kvv} (hok : HOk X.prog X.w H s.heap) (h : DR X.w H d kvs) : ∃ o es ep, s.heap.get? d = some o ∧ o.ExactDict ∧ o.data = .dict es ep ∧ (d == sysModules) = false ∧ Ents X.w H kvs es := by
  rcases h with h | h
  · obtain ⟨o, es, ep, _, r⟩ := h.raw hok
    exact ⟨o, es, ep, r⟩
  · obtain ⟨o, _, es, ep, _, r⟩ := h.raw hok
    exact ⟨o, es, ep, r⟩
end
def rInR (w : World) (no : Bool) : V → V → Hp → VK → Prop := fun x y H Q => ∃ (d : Addr) (kvs : List Kvv) (k : NestedKey), y = .ref d ∧ DR w H d kvs ∧ KeyV H k x ∧ k.depth ≤ 8 ∧ Q (.bl (xor no (decide (k ∈ kvs.map (·.1))))) H
section
variable {X : Cx}
theorem op_inR (hu : X.A.units + 9 < cLine) : OpR X (compareOp .In) (rInR X.w false) := by
  intro pins s σ H x y v u Q I rx ry h
  obtain ⟨d, kvs, k, rfl, hd, hk, h8, q⟩ := h
  cases (show u = Value.ref d from ry)
  obtain ⟨od, es, ep, ho, hx, hdt, hm, hE⟩ := hd.raw I.hok
  rw [Bool.false_xor] at q
  show wpAny _ _ (do return Value.bool (← contains (.ref d) v)) _ _ s
  exact wpAny_bind (contains_any hu (hk.is I rx) h8 hm ho hx hdt (hE.ks I) (wpAny_pure ⟨.bl (decide (k ∈ kvs.map (fun x : Kvv => x.1))), H, I.tok _, rfl, q⟩))
theorem op_notInR (hu : X.A.units + 9 < cLine) : OpR X (compareOp .NotIn) (rInR X.w true) := by
  intro pins s σ H x y v u Q I rx ry h
  obtain ⟨d, kvs, k, rfl, hd, hk, h8, q⟩ := h
  cases (show u = Value.ref d from ry)
  obtain ⟨od, es, ep, ho, hx, hdt, hm, hE⟩ := hd.raw I.hok
  rw [Bool.true_xor] at q
  show wpAny _ _ (do return Value.bool !(← contains (.ref d) v)) _ _ s
  exact wpAny_bind (contains_any hu (hk.is I rx) h8 hm ho hx hdt (hE.ks I) (wpAny_pure ⟨.bl (!decide (k ∈ kvs.map (fun x : Kvv => x.1))), H, I.tok _, rfl, q⟩))
def rLenR (w : World) : List V → Hp → VK → Prop := fun xs H Q => ∃ d kvs, xs = [V.ref d] ∧ DR w H d kvs ∧ Q (.int (kvs.length : Nat)) H
theorem call_lenR : CallR X (.builtin "len") (rLenR X.w) := by
  intro pins s σ H xs us Q I r h
  obtain ⟨d, kvs, rfl, hd, q⟩ := h
  obtain ⟨u, rfl, rx⟩ := vals1 r
  cases rx
  obtain ⟨od, es, ep, ho, hx, hdt, hm, hE⟩ := hd.raw I.hok
  refine len_raw hm ⟨od, ho, hx, hdt⟩ (by rw [← hE.len]; exact hE.lt) fun t s' e => ?_
  subst e
  exact ⟨.int kvs.length, H, I.tok _, ⟨_, by rw [hE.len]⟩, q⟩
theorem ents_at {w : World} {H : Hp} {kvs : List Kvv} {es : Array DictEntry} {k : NestedKey} {j : Nat} {e : DictEntry} {i v : V} (hE : Ents w H kvs es) (hm : (k, i, v) ∈ kvs) (hj : (kvs.map (·.1))[j]? = some k) (he : es[j]? = some e) : RelV v e.val := by
  obtain ⟨z, hz, ev⟩ := hE.back he
  have ez : z = (k, i, v) := by
    obtain ⟨j2, hj2⟩ := List.mem_iff_getElem?.mp hm
    have a2 : (kvs.map (·.1))[j2]? = some k := by rw [List.getElem?_map, hj2]; rfl
    have jj : j = j2 := (List.getElem?_inj (List.getElem?_eq_some_iff.mp hj).1 hE.nod).mp (hj.trans a2.symm)
    rw [jj, hj2] at hz
    exact (Option.some.inj hz).symm
  rw [ez] at ev
  exact ev.2.2.2.2
def tDGetR (w : World) (td ty : TE) : TE := fun σ H Q => td σ H fun x H1 => ty σ H1 fun y H2 => ∃ (d : Addr) (kvs : List Kvv) (k : NestedKey) (i v : V), x = .ref d ∧ DR w H2 d kvs ∧ KeyV H2 k y ∧ k.depth ≤ 8 ∧ (k, i, v) ∈ kvs ∧ Q v H2
theorem pe_dgetR {o i : Expr} {pos : Pos} {td ty : TE} (hu : X.A.units + 10 < cLine) (ho : PE X o td) (hi : PE X i ty) (hs : NoSl i) : PE X (.Subscript o i pos) (tDGetR X.w td ty) := by
  refine ⟨fun pins s σ H Q I h => ?_⟩
  refine subD_of PySem.F.slot_dict_getitem.lookup hs (thn (ho.run pins s σ H _ I h) fun u s1 ⟨x, H1, I1, rx, q1⟩ => thn (hi.run pins s1 σ H1 _ I1 q1) fun iv s2 ⟨y, H2, I2, ry, d, kvs, k, i, v, ex, hdf, hk, h8, hm, q2⟩ => ?_)
  subst ex
  obtain rfl : u = Value.ref d := rx
  obtain ⟨od, es, ep, hob, hx, hdt, hsy, hE⟩ := hdf.raw I2.hok
  have ty' : s2.TypeIs (.ref d) "dict" := ⟨od, hob, hx.1⟩
  refine ⟨ty', ?_⟩
  unfold getItem
  try with_reducible refine wpAny_holding ?_
  refine wpAny_bind (wpAny_sequenceKey ty' (by decide) (wpAny_bind (wpAny_callSpecial?_slot (name := Str.ofString "__getitem__") ty' slot_dict_getitem (wpAny_call_entry slot_dict_getitem ty' entry_dict_getitem ?_ (args_dict_getitem _ _)))))
  show wpAny _ _ (dictGet d iv >>= _) _ _ s2
  refine wpAny_bind (dictGet_any (by show X.A.units + 1 + 8 < cLine; omega) (hk.is I2 ry) h8 hob hdt (hE.ks I2) (fun n => absurd (List.mem_map.mpr ⟨_, hm, rfl⟩) n) fun j e hj he => ?_)
  exact wpAny_pure ⟨_, rfl, wpAny_pure ⟨v, H2, I2.tok _, ents_at hE hm hj he, q2⟩⟩
/-- d.get(k, v0) -/
def rGetR (w : World) : V → List V → Hp → VK → Prop := fun x xs H Q => ∃ (d : Addr) (kvs : List Kvv) (k : NestedKey) (y v0 : V), x = .ref d ∧ xs = [y, v0] ∧ DR w H d kvs ∧ KeyV H k y ∧ k.depth ≤ 8 ∧ (∀ i v, (k, i, v) ∈ kvs → Q v H) ∧ (k ∉ kvs.map (·.1) → Q v0 H)
theorem mt_getR (hu : X.A.units + 10 < cLine) : MtR X "dict.get" (rGetR X.w) := by
  intro pins s σ H x xs v us Q I rx rxs h
  obtain ⟨d, kvs, k, y, v0, rfl, rfl, hd, hk, h8, q1, q0⟩ := h
  cases rx
  obtain ⟨u1, u2, rfl, r1, r2⟩ := vals2 rxs
  obtain ⟨od, es, ep, ho, hx, hdt, hm, hE⟩ := hd.raw I.hok
  have ty : s.TypeIs (.ref d) "dict" := ⟨od, ho, hx.1⟩
  refine call_meetsIn PySem.F.slot_dict_get ty PySem.F.entry_dict_get (PySem.F.args_dict_get_3 _ _ _) (S := fun A' R s' => A' = X.A ∧ s' = s ∧ (∀ (u : Value) (v : V) (t : Nat), RelV v u → Q v H → R (.ok (.ret u)) { s with toks := t })) (.of_wp fun A' R s' hS => ?_) ⟨rfl, rfl, fun u v t r q => ⟨v, H, I.tok t, r, q⟩⟩
  obtain ⟨rfl, rfl, hq⟩ := hS
  show wpAny _ _ (dictGet d u1 >>= _) _ _ _
  refine wpAny_bind (dictGet_any (by show X.A.units + 1 + 8 < cLine; omega) (hk.is I r1) h8 ho hdt (hE.ks I) (fun n => ?_) fun j e hj he => ?_)
  · show wpAny _ _ (Builtin.Dict.missed d u1 >>= _) _ _ _
    exact wpAny_bind (wpAny_missed_other hm (wpAny_pure ⟨u2, rfl, hq u2 v0 _ r2 (q0 n)⟩))
  · obtain ⟨z, hz, ev⟩ := hE.back he
    have e1 : z.1 = k := by
      rw [List.getElem?_map, hz] at hj
      exact Option.some.inj hj
    have hmz : (k, z.2.1, z.2.2) ∈ kvs := by rw [← e1]; exact List.mem_of_getElem? hz
    exact wpAny_pure ⟨_, rfl, hq _ z.2.2 _ ev.2.2.2.2 (q1 _ _ hmz)⟩
end
end My

set_option linter.all false
namespace My
open PySem PySem.Spec PyProof.Rows L2
/-! ### dict(d): a copy, keys that are tuples -/
section
variable {prog : Program} {w : World} {A : Around} {E : Value → Shared → Prop} {s : Shared}
theorem merge_raw {nm : String} {d o : Addr} {eso : Array DictEntry} {epd epo : Nat} {Q : Unit → Shared → Prop} (hdo : d ≠ o) (hoS : (o == sysModules) = false) (hd : s.heap.DictRaw d #[] epd) (ho : s.heap.DictRaw o eso epo)
    (few : (eso.all fun e => (keyPart e.key).isSome) = false) (hq : ∀ e ∈ eso.toList, KeyApart s eso e) (hz : eso.size ≤ sizeLine)
    (hQ : ∀ h' ep', h'.DictRaw d eso ep' → Heap.SameBut d s.heap h' → Q () { s with heap := h' }) : wpAny (model prog w) A (Builtin.Dict.mergeDict nm d o) Q E s := by
  obtain ⟨od, hod, hcd, hdd⟩ := hd
  obtain ⟨oo, hoo, hco, hdo'⟩ := ho
  have ne : eso.isEmpty = false := by
    cases e : eso.isEmpty with
    | false => rfl
    | true =>
      rw [Array.isEmpty_iff.mp e] at few
      simp at few
  unfold Builtin.Dict.mergeDict
  rw [if_neg (by simpa using hdo)]
  unfold Builtin.Dict.showsAll
  rw [if_neg (by rw [hoS]; exact Bool.false_ne_true)]
  refine wpAny_bind (wpAny_pure ?_)
  refine wpAny_bind (wpAny_dictEntries hoo hdo' ?_)
  dsimp only
  rw [few, Bool.and_false]
  rw [if_pos (by rfl)]
  refine wpAny_bind (wpAny_dictEntries hod hdd ?_)
  rw [if_pos (by rfl)]
  refine wpAny_bind (wpAny_entriesForEmpty_raw hoo hdo' hq ?_)
  rw [ne]
  rw [if_pos (by rfl)]
  exact wpAny_bind (wpAny_updateDictKeysTo hod hdd (wpAny_pure (hQ _ _ ⟨_, Heap.get?_update_self _ hod (Obj.isFreed_of_dict (Obj.data_mapDictKeys hdd _)), hcd.mapDictKeys _, Obj.data_mapDictKeys hdd _⟩ (Heap.SameBut.update ..))) (by omega))
theorem dict_raw {o : Addr} {eso : Array DictEntry} {epo : Nat} {Q : Value → Shared → Prop} (hoS : (o == sysModules) = false) (ho : s.heap.DictRaw o eso epo)
    (few : (eso.all fun e => (keyPart e.key).isSome) = false) (hq : ∀ h', (∀ b u, s.heap.get? b = some u → h'.get? b = some u) → ∀ e ∈ eso.toList, KeyApart { s with heap := h' } eso e) (hz : eso.size ≤ sizeLine)
    (h : ∀ h' ep', h'.DictRaw s.heap.objs.size eso ep' → (∀ b u, s.heap.get? b = some u → h'.get? b = some u) → Q (.ref s.heap.objs.size) { s with heap := h' }) : wpAny (model prog w) A (call (.type "dict") [.ref o]) Q E s := by
  refine callType_codes (Q₁ := fun obj s₁ => obj = .ref s.heap.objs.size ∧ s₁ = { s with heap := s.heap.push { cls := .type "dict", data := .dict #[] } }) F.kt_called_dict (F.kt_typeCall_dict_1 _) F.entry_dict_init (kt_code_dict_new _ ⟨rfl, rfl⟩) ?_
  rintro obj s₁ ⟨rfl, rfl⟩
  have keep : ∀ b u, s.heap.get? b = some u → (s.heap.push { cls := .type "dict", data := .dict #[] }).get? b = some u := fun b u e => Heap.get?_push_of_some _ e
  have new : (s.heap.push { cls := .type "dict", data := .dict #[] }).DictRaw s.heap.objs.size #[] 0 := ⟨_, Heap.get?_push_size _ rfl, ⟨rfl, rfl, rfl⟩, rfl⟩
  have hT : Shared.TypeIs { s with heap := s.heap.push { cls := .type "dict", data := .dict #[] } } (.ref s.heap.objs.size) "dict" := ⟨_, Heap.get?_push_size _ rfl, rfl⟩
  refine ⟨hT, F.args_dict_init_2 _ _, ?_⟩
  unfold Builtin.«dict.__init__»
  refine wpAny_bind ?_
  unfold Builtin.Dict.selfAndRest
  refine wpAny_bind (wpAny_notOrdered_dict hT ?_)
  show wpAny _ _ (pure (s.heap.objs.size, [Value.ref o])) _ _ _
  refine wpAny_pure ?_
  have ho1 : (s.heap.push { cls := .type "dict", data := .dict #[] }).DictRaw o eso epo := let ⟨u, e, r⟩ := ho; ⟨u, keep _ _ e, r⟩
  have ty1 : Shared.TypeIs { s with heap := s.heap.push { cls := .type "dict", data := .dict #[] } } (.ref o) "dict" := ho1.typeIs
  have od : s.heap.objs.size ≠ o := fun z => by
    obtain ⟨u, e, _⟩ := ho
    rw [← z] at e
    exact Nat.lt_irrefl _ (Heap.lt_size e)
  show wpAny _ _ (Builtin.Dict.updateFrom "dict.__init__" s.heap.objs.size (.ref o) [] .none) _ _ _
  unfold Builtin.Dict.updateFrom
  refine wpAny_bind (wpAny_typeOf ty1 ?_)
  rw [if_neg (by decide)]
  refine wpAny_bind ?_
  unfold Builtin.Dict.merge
  refine wpAny_bind ?_
  unfold Builtin.Dict.readDirectly
  refine wpAny_bind (wpAny_isInstance ty1 isSubtype_dict_dict ?_)
  simp only [Bool.not_true, Bool.false_eq_true, if_false]
  refine wpAny_bind (wpAny_specialOf ty1 F.slot_dict_iter.lookup (wpAny_pure ?_))
  simp only [beq_self_eq_true, if_true]
  refine wpAny_bind (wpAny_pure ?_)
  refine merge_raw od hoS new ho1 few (hq _ keep) hz fun h' ep' hr hs => ?_
  show wpAny _ _ (Builtin.Dict.addKeywords s.heap.objs.size [] >>= _) _ _ _
  exact wpAny_bind (wpAny_pure (wpAny_pure ⟨rfl, h h' ep' hr fun b u e => (hs.2 b (Nat.ne_of_lt (Heap.lt_size e))).trans (keep _ _ e)⟩))
end
/-- dict(d), d's keys tuples whose hashes are apart -/
def rDictCp (w : World) : List V → Hp → VK → Prop := fun xs H Q => ∃ (a : Addr) (kvs : List Kvv), xs = [.ref a] ∧ DR w H a kvs ∧ kvs ≠ [] ∧ (∀ x ∈ kvs, ∃ ks, x.1 = .tup ks) ∧ (kvs.map fun x => x.1.hash w).Nodup ∧ ∀ p H', H p = none → (∀ b, b ≠ p → H' b = H b) → DN w H' p kvs → Q (.ref p) H'
section
variable {X : Cx}
theorem call_dictCp : CallR X (.type "dict") (rDictCp X.w) := by
  intro pins s σ H xs us Q I r h
  obtain ⟨a, kvs, rfl, hd, ne, ht, hh, q⟩ := h
  obtain ⟨u, rfl, rx⟩ := vals1 r
  cases rx
  obtain ⟨o, es, ep, ho, hx, hdt, hm, hE⟩ := hd.raw I.hok
  have hsz : es.size ≤ sizeLine := by rw [← hE.len]; exact hE.lt
  have key : ∀ (j : Nat) (e : DictEntry), es[j]? = some e → ∃ (c : Addr) (oc : Obj) , e.key = .ref c ∧ s.heap.get? c = some oc ∧ oc.cls = .type "tuple" := fun j e he => by
    obtain ⟨x, h1, h2⟩ := hE.back he
    obtain ⟨ks, ek⟩ := ht x (List.mem_of_getElem? h1)
    have kis := h2.1.is I h2.2.1
    rw [ek] at kis
    generalize e.key = v at kis
    cases kis with
    | tup g1 g2 g3 g4 => exact ⟨_, _, rfl, g1, g2⟩
  have hes : (es.toList.map (·.hash)).Nodup := by
    have e : es.toList.map (·.hash) = kvs.map fun x => x.1.hash X.w := by
      have : ∀ {l : List Kvv} {m : List DictEntry}, Paired (EnV X.w H) l m → m.map (·.hash) = l.map fun x => x.1.hash X.w := by
        intro l m r
        induction r with
        | nil => rfl
        | cons h t ih => rw [List.map_cons, List.map_cons, ih, h.2.2.1]
      exact this hE.prd
    rw [e]; exact hh
  refine dict_raw hm ⟨o, ho, hx, hdt⟩ ?_ (fun h' kp e he => ?_) hsz fun h' ep' hr kp => ?_
  · cases e : es.all fun e => (keyPart e.key).isSome with
    | false => rfl
    | true =>
      cases kvs with
      | nil => exact absurd rfl ne
      | cons x r =>
        have l := hE.len
        have h0 : 0 < es.size := by rw [← l]; exact Nat.succ_pos _
        obtain ⟨c, oc, e1, _, _⟩ := key 0 es[0] (Array.getElem?_eq_getElem h0)
        have := (Array.all_eq_true.mp e) 0 h0
        rw [e1] at this
        cases this
  · obtain ⟨j, hj⟩ := List.mem_iff_getElem?.mp he
    obtain ⟨c, oc, e1, e2, e3⟩ := key j e (by rw [← hj, Array.getElem?_toList])
    refine .inr ⟨c, e1, ⟨oc, kp _ _ e2, e3⟩, ?_⟩
    rw [← Array.length_toList, Array.toList_filter]
    exact filter_le_one (·.hash) _ es.toList hes
  · have hn := I.hok.fresh (Nat.le_refl s.heap.objs.size)
    have hm2 : (s.heap.objs.size == sysModules) = false := beq_eq_false_iff_ne.mpr (Nat.ne_of_gt I.big)
    have up : ∀ b xs, H b = some (.tup xs) → upd H s.heap.objs.size (rawO s.heap.objs.size es ep') b = some (.tup xs) := fun b xs e => by
      rw [upd_ne (fun hb => by rw [hb, hn] at e; cases e)]; exact e
    exact ⟨.ref _, upd H s.heap.objs.size (rawO s.heap.objs.size es ep'), I.laid (t' := s.toks) (fun b o e => kp b o e) (Nat.le_refl _) (ext_ok hr hm2), rfl, q _ _ hn (fun b hb => upd_ne hb) ⟨es, ep', upd_same, hE.up up⟩⟩
end
end My

set_option linter.all false
namespace My
open PySem PySem.Spec PyProof.Rows L2
/-! ### small helpers, and comprehensions that make tuples -/
theorem same_upd {H : Hp} {a : Addr} {o : HO} (n : H a = none) : Same H (upd H a o) := fun b x e => by
  rw [upd_ne (fun z => by rw [z, n] at e; cases e)]; exact e
theorem tyes {σ : L2.St} {H : Hp} {A R : Hp → Prop} (h : A H) : tYes σ H fun b H3 => if b = true then A H3 else R H3 := by
  unfold tYes; dsimp only; rw [if_pos rfl]; exact h
theorem goHeap {H H' : Hp} {Pr : Hp → Prop} (e : H = H') (h : Pr H) : Pr H' := e ▸ h
theorem ite_both {k : Bool} {t1 t2 : TE} {σ : L2.St} {H : Hp} {Q : V → Hp → Prop} (R : V → Hp → Prop) (c : ∀ v H', R v H' → Q v H') (h1 : k = true → (∀ v H', R v H' → Q v H') → t1 σ H Q) (h2 : k = false → (∀ v H', R v H' → Q v H') → t2 σ H Q) : if k = true then t1 σ H Q else t2 σ H Q := by
  cases k
  · exact h2 rfl c
  · exact h1 rfl c
theorem snoc_at {α : Type} {l : List α} {x z : α} {j : Nat} (h : (l ++ [x])[j]? = some z) : (j < l.length ∧ l[j]? = some z) ∨ (j = l.length ∧ x = z) := by
  by_cases c : j < l.length
  · rw [List.getElem?_append_left c] at h
    exact .inl ⟨c, h⟩
  · rw [List.getElem?_append_right (by omega)] at h
    have c2 : j - l.length = 0 := by
      cases hj : j - l.length with
      | zero => rfl
      | succ m => rw [hj] at h; simp at h
    rw [c2] at h
    exact .inr ⟨by omega, by simpa using h⟩
def KpT (H H' : Hp) : Prop := ∀ c xs, H c = some (.tup xs) → H' c = some (.tup xs)
theorem KpT.of {H H' : Hp} (e : Same H H') : KpT H H' := fun c xs h => e _ _ h
theorem lc_pr {J : It} {n : Nat} {G : Hp → Prop} {Y : Nat → Hp → V → Hp → Prop} (w : Walk J n G Y) {g : TG} {tt : TT} {te : TE} {vs : List Nat} {σ : L2.St} {H1 : Hp} {D : Addr} {Qd : Hp → Prop} (Pr : Nat → V → Hp → Prop) (mono : ∀ i v H H', KpT H H' → Pr i v H → Pr i v H') (nD : H1 D = none) (hn : n ≤ sizeLine) (hG : ∀ H, Same H1 H → G H)
    (hs : ∀ i x H H', i < n → Same H1 H → Y i H x H' → ∀ (Q : VK) (R : Hp → Prop), (∀ v H4, Same H H4 → Pr i v H4 → Q v H4) → g x (wipe σ vs) H' fun σ2 H2 => wipe σ2 vs = wipe σ vs ∧ tt σ2 H2 fun b H3 => if b = true then te σ2 H3 Q else R H3)
    (hd : ∀ H us, Same H1 H → H D = some (.lst us) → us.length = n → (∀ i v, us[i]? = some v → Pr i v H) → Qd H) :
    ∃ W : Nat → Nat → Hp → Prop, (∃ m, W 0 m (upd H1 D (.lst []))) ∧ ∀ i m H, W i m H →
      (J.stop i H ∧ Qd H) ∨ (J.go i H ∧ ∃ Nx : Hp → Prop, (∀ H', Nx H' → ∃ m', m' < m ∧ W (i + 1) m' H') ∧ ∀ x H', J.yld i H x H' → g x (wipe σ vs) H' fun σ2 H2 => wipe σ2 vs = wipe σ vs ∧ tt σ2 H2 fun b H3 =>
        if b = true then te σ2 H3 fun y H4 => ∃ acc, H4 D = some (.lst acc) ∧ acc.length < sizeLine ∧ Nx (upd H4 D (.lst (acc ++ [y]))) else Nx H3) := by
  refine lc_it w (fun i H => Same H1 H ∧ ∃ us : List V, H D = some (.lst us) ∧ us.length = i ∧ ∀ (j : Nat) (v : V), us[j]? = some v → Pr j v H) ⟨fun a o e => ?_, [], upd_same, rfl, fun j v h => by simp at h⟩ (fun i H _ h => hG H h.1) (fun i x H H' hi ⟨sa, us, h1, h2, h3⟩ y => ?_) (fun H ⟨sa, us, h1, h2, h3⟩ => hd H us sa h1 h2 h3)
  · rw [upd_ne (fun z => by rw [z, nD] at e; cases e)]; exact e
  · refine hs i x H H' hi sa y _ _ fun v H4 s4 pv => ?_
    have kp : KpT H4 (upd H4 D (.lst (us ++ [v]))) := fun c xs e => by rw [upd_ne (fun z => by rw [z, s4 _ _ h1] at e; cases e)]; exact e
    refine ⟨_, s4 _ _ h1, by omega, fun a o e => ?_, us ++ [v], upd_same, by rw [List.length_append, h2]; rfl, fun j z hz => ?_⟩
    · rw [upd_ne (fun z => by rw [z, nD] at e; cases e)]; exact s4 _ _ (sa _ _ e)
    · rcases snoc_at hz with ⟨c, g1⟩ | ⟨c, rfl⟩
      · exact mono _ _ _ _ kp (mono _ _ _ _ (KpT.of s4) (h3 j z g1))
      · rw [c, h2]; exact mono _ _ _ _ kp pv
theorem choose_n {α : Type} {Pr : Nat → α → Prop} : ∀ n, (∀ i, i < n → ∃ a, Pr i a) → ∃ l : List α, l.length = n ∧ ∀ (i : Nat) (a : α), l[i]? = some a → Pr i a
  | 0, _ => ⟨[], rfl, fun i a h => by simp at h⟩
  | n + 1, h => by
    obtain ⟨l, h1, h2⟩ := choose_n n fun i hi => h i (by omega)
    obtain ⟨a, ha⟩ := h n (Nat.lt_succ_self n)
    refine ⟨l ++ [a], by rw [List.length_append, h1]; rfl, fun i y hy => ?_⟩
    rcases snoc_at hy with ⟨c, g⟩ | ⟨c, rfl⟩
    · exact h2 i y g
    · rw [c, h1]; exact ha
theorem list_by {α β : Type} (f : α → β) {l : List α} {us : List β} (h1 : us.length = l.length) (h : ∀ (i : Nat) (a : α), l[i]? = some a → us[i]? = some (f a)) : us = l.map f := by
  refine List.ext_getElem? fun i => ?_
  rw [List.getElem?_map]
  by_cases c : i < l.length
  · rw [h i _ (List.getElem?_eq_getElem c), List.getElem?_eq_getElem c]; rfl
  · rw [List.getElem?_eq_none (by omega), List.getElem?_eq_none (by omega)]; rfl
theorem lc_prf {J : It} {n : Nat} {G : Hp → Prop} {Y : Nat → Hp → V → Hp → Prop} (w : Walk J n G Y) {g : TG} {tt : TT} {te : TE} {vs : List Nat} {σ : L2.St} {H1 : Hp} {D : Addr} {Qd : Hp → Prop} (f : Nat → Bool) (Pr : Nat → V → Hp → Prop) (mono : ∀ i v H H', KpT H H' → Pr i v H → Pr i v H') (nD : H1 D = none) (hn : n ≤ sizeLine) (hG : ∀ H, Same H1 H → G H)
    (hs : ∀ i x H H', i < n → Same H1 H → Y i H x H' → ∀ (Q : VK) (R : Hp → Prop), (f i = true → ∀ v H4, Same H H4 → Pr i v H4 → Q v H4) → (f i = false → ∀ H4, Same H H4 → R H4) → g x (wipe σ vs) H' fun σ2 H2 => wipe σ2 vs = wipe σ vs ∧ tt σ2 H2 fun b H3 => if b = true then te σ2 H3 Q else R H3)
    (hd : ∀ H (us : List V), Same H1 H → H D = some (.lst us) → us.length = ((List.range n).filter f).length → (∀ (j : Nat) (v : V) (i : Nat), us[j]? = some v → ((List.range n).filter f)[j]? = some i → Pr i v H) → Qd H) :
    ∃ W : Nat → Nat → Hp → Prop, (∃ m, W 0 m (upd H1 D (.lst []))) ∧ ∀ i m H, W i m H →
      (J.stop i H ∧ Qd H) ∨ (J.go i H ∧ ∃ Nx : Hp → Prop, (∀ H', Nx H' → ∃ m', m' < m ∧ W (i + 1) m' H') ∧ ∀ x H', J.yld i H x H' → g x (wipe σ vs) H' fun σ2 H2 => wipe σ2 vs = wipe σ vs ∧ tt σ2 H2 fun b H3 =>
        if b = true then te σ2 H3 fun y H4 => ∃ acc, H4 D = some (.lst acc) ∧ acc.length < sizeLine ∧ Nx (upd H4 D (.lst (acc ++ [y]))) else Nx H3) := by
  refine lc_it w (fun i H => Same H1 H ∧ ∃ us : List V, H D = some (.lst us) ∧ us.length = ((List.range i).filter f).length ∧ ∀ (j : Nat) (v : V) (k : Nat), us[j]? = some v → ((List.range i).filter f)[j]? = some k → Pr k v H) ⟨fun a o e => ?_, [], upd_same, rfl, fun j v k h => by simp at h⟩ (fun i H _ h => hG H h.1) (fun i x H H' hi ⟨sa, us, h1, h2, h3⟩ y => ?_) (fun H ⟨sa, us, h1, h2, h3⟩ => hd H us sa h1 h2 h3)
  · rw [upd_ne (fun z => by rw [z, nD] at e; cases e)]; exact e
  · refine hs i x H H' hi sa y _ _ (fun hf v H4 s4 pv => ?_) fun hf H4 s4 => ?_
    · have kp : KpT H4 (upd H4 D (.lst (us ++ [v]))) := fun c xs e => by rw [upd_ne (fun z => by rw [z, s4 _ _ h1] at e; cases e)]; exact e
      have er : (List.range (i + 1)).filter f = (List.range i).filter f ++ [i] := by
        rw [List.range_succ, List.filter_append, List.filter_cons, if_pos hf]; rfl
      refine ⟨_, s4 _ _ h1, ?_, fun a o e => ?_, us ++ [v], upd_same, by rw [List.length_append, h2, er, List.length_append]; rfl, fun j z k hz hk => ?_⟩
      · have := List.length_filter_le f (List.range i)
        rw [List.length_range] at this
        omega
      · rw [upd_ne (fun z => by rw [z, nD] at e; cases e)]; exact s4 _ _ (sa _ _ e)
      · rw [er] at hk
        rcases snoc_at hz with ⟨c, g1⟩ | ⟨c, rfl⟩
        · rcases snoc_at hk with ⟨c2, g2⟩ | ⟨c2, _⟩
          · exact mono _ _ _ _ kp (mono _ _ _ _ (KpT.of s4) (h3 j z k g1 g2))
          · omega
        · rcases snoc_at hk with ⟨c2, _⟩ | ⟨c2, rfl⟩
          · omega
          · exact mono _ _ _ _ kp pv
    · have er : (List.range (i + 1)).filter f = (List.range i).filter f := by
        rw [List.range_succ, List.filter_append, List.filter_cons, if_neg (by rw [hf]; decide), List.filter_nil, List.append_nil]
      refine ⟨fun a o e => s4 _ _ (sa _ _ e), us, s4 _ _ h1, by rw [h2, er], fun j z k hz hk => ?_⟩
      rw [er] at hk
      exact mono _ _ _ _ (KpT.of s4) (h3 j z k hz hk)
end My

set_option linter.all false
namespace My
open PySem PySem.Spec PyProof.Rows L2 NdefX LamX
/-! ### grown: all keys that come from the first one -/
abbrev sGrown : Stmt := topS 14
/-- a row that is never come to -/
theorem ps_no {X : Cx} {st : Stmt} : PS X st (fun _ _ _ => False) := ⟨fun _ _ _ _ _ _ h => h.elim⟩
theorem fnc_okD {P : Program} {w : World} {K : PySem.W.Frag} {mg : Str → Option Value} {base : Heap} {C : List Env → Heap → Hp → Prop} {x qual : Str} {params : Arguments} {bd : List Stmt} {sc : Scope} {dvs : List V} {kws : List (Str × V)} {f : Addr} {fd : FuncData} {N ps : List Str} {k : Nat} {sp : Sp} (F : FunD K x qual params bd sc dvs kws f fd) (S : FnScope N ps sc) (ln : ∀ vs H Q E, sp vs H Q E → vs.length = ps.length)
    (body : ∀ (cdv : Value) (A : Around) (out : List Env) (s : Shared) (H : Hp) (vs : List V) (Q : VK) (E : XK), Room k (A.deeper (envOfC qual sc s.heap.objs.size f cdv)) → C out s.heap H → sp vs H Q E →
      ∃ t, PSs (cxOf CX0 P w K mg base N qual sc f cdv A out s H E).nox bd t ∧ t { nx := fun _ G => Q .non G, rt := Q } (start N vs) H) : FnC P w K mg base (k + 1) f fd ps C sp := by
  obtain ⟨oc, od, dV, kV, doc, pm, an, cdv, ct, osl, rfl, lk, cd, _, _⟩ := F.ex
  refine ⟨ln, fun A out s H ar us vs Q E room e0 hC bnd rel want => ?_⟩
  have lenv := ln _ _ _ _ want
  have inK : K.In s.heap := e0.mod.kin.keeps fun b o z => (e0.bs b o z).1
  have free : s.heap.NoLimit := e0.mod.nolimit.keeps fun b o z => (e0.bs b o z).1
  have names : ∀ y ∈ ps.zip us, sc.names.lookup y.1 = some .local ∨ (sc.names.lookup y.1 = some .cell ∧ ((cellsFrom (s.heap.objs.size + 1) sc.names []).lookup y.1).isSome = true) := by
    rintro ⟨n, v⟩ hy
    exact (S.par n (List.of_mem_zip hy).1).imp id fun q => ⟨q, PySem.W.cellsFrom_some _ _ _ (.inl q)⟩
  refine codeAny_call_function room.depth (inK _ _ lk) rfl S.co S.gen rfl (PySem.W.codeRec_of inK cd) (bnd _ _ _ _ (wpAny_newFunctionEnv_cells S.kind names fun env he s1 at1 => ?_))
  subst he
  refine ⟨free.keeps at1.toInCall.keep, codeAny_func ?_⟩
  obtain ⟨t, pt, goal⟩ := body cdv A out s H vs Q E (room.deeper _) hC want
  have I := inv_start (CX := CX0) (E := E) S room.hd e0 lenv rel at1
  refine wpAny_mono (pt.nox.run [] s1 (start N vs) H _ I goal) (fun fl s' out' => ?_) fun e s' z => z
  have give : ∀ {σ' : L2.St} {G : Hp} {v : V} {u : Value}, Inv (cxOf CX0 P w K mg base N qual sc f cdv A out s H E) [] σ' G s' → RelV v u → Q v G → CE out P w H s Q u s' :=
    fun {_ G v _} J rv q => ⟨v, G, J.os, J.bare, J.base, J.hok, rv, q⟩
  match fl, out' with
  | .ret u, ⟨v, σ', G, J, rv, q⟩ => exact give J rv q
  | .next, ⟨σ', G, J, q⟩ => exact give (v := V.non) (u := Value.none) J rfl q
  | .brk, ⟨_, _, _, q⟩ => exact q.elim
  | .cont, ⟨_, _, _, q⟩ => exact q.elim
/-! pairs of numbers as keys -/
def IsPr (H : Hp) (x : V) (k : Sx.St) : Prop := ∃ t : Addr, x = .ref t ∧ H t = some (.tup [.int k.1, .int k.2])
def IsOp (H : Hp) (x : V) (o : Option Sx.St) : Prop := match o with
  | none => x = .non
  | some k => IsPr H x k
def nV : Option Nat → V
  | none => .non
  | some i => .int (i : Nat)
def IsRow (H : Hp) (x : V) (r : List (Option Nat)) : Prop := ∃ t : Addr, x = .ref t ∧ H t = some (.tup (r.map nV))
theorem IsPr.up {H H' : Hp} {x : V} {k : Sx.St} (e : KpT H H') (h : IsPr H x k) : IsPr H' x k := let ⟨t, a, b⟩ := h; ⟨t, a, e _ _ b⟩
theorem IsOp.up {H H' : Hp} {x : V} {o : Option Sx.St} (e : KpT H H') (h : IsOp H x o) : IsOp H' x o := by
  cases o with
  | none => exact h
  | some k => exact IsPr.up e h
theorem IsRow.up {H H' : Hp} {x : V} {r : List (Option Nat)} (e : KpT H H') (h : IsRow H x r) : IsRow H' x r := let ⟨t, a, b⟩ := h; ⟨t, a, e _ _ b⟩
theorem prs_up {H H' : Hp} (e : KpT H H') {xs : List V} {ks : List Sx.St} (h : Paired (IsPr H) xs ks) : Paired (IsPr H') xs ks := Paired.mapP h fun _ _ z => z.up e
theorem ops_up {H H' : Hp} (e : KpT H H') {xs : List V} {ks : List (Option Sx.St)} (h : Paired (IsOp H) xs ks) : Paired (IsOp H') xs ks := Paired.mapP h fun _ _ z => z.up e
theorem rows_up {H H' : Hp} (e : KpT H H') {xs : List V} {ks : List (List (Option Nat))} (h : Paired (IsRow H) xs ks) : Paired (IsRow H') xs ks := Paired.mapP h fun _ _ z => z.up e
def kp (k : Sx.St) : NestedKey := .tup [.num k.1, .num k.2]
def okey : Option Sx.St → NestedKey
  | none => .none
  | some k => kp k
theorem kp_inj {a b : Sx.St} (h : kp a = kp b) : a = b := by
  unfold kp at h
  injection h with h
  injection h with h1 h2
  injection h1 with h1
  injection h2 with h2 _
  injection h2 with h2
  exact Prod.ext h1 h2
theorem kp_depth (k : Sx.St) : (kp k).depth ≤ 8 := by
  unfold kp
  simp only [NestedKey.depth, NestedKey.depthAll]
  omega
theorem okey_depth (o : Option Sx.St) : (okey o).depth ≤ 8 := by
  cases o with
  | none => simp only [okey, NestedKey.depth]; omega
  | some k => exact kp_depth k
theorem keyv_pr {H : Hp} {x : V} {k : Sx.St} (h : IsPr H x k) : KeyV H (kp k) x := by
  obtain ⟨t, rfl, h⟩ := h
  exact .tup h (.cons (.int _) (.cons (.int _) .nil))
theorem keyv_op {H : Hp} {x : V} {o : Option Sx.St} (h : IsOp H x o) : KeyV H (okey o) x := by
  cases o with
  | none => cases (show x = V.non from h); exact .non
  | some k => exact keyv_pr h
/-- the numbers of the keys -/
def numF (n : Nat) : List Sx.St → List (NestedKey × V)
  | [] => []
  | k :: r => (kp k, .int (n : Nat)) :: numF (n + 1) r
def numE (ks : List Sx.St) : List (NestedKey × V) := (.none, .non) :: numF 0 ks
theorem numF_snoc (k : Sx.St) : ∀ (ks : List Sx.St) (n : Nat), numF n (ks ++ [k]) = numF n ks ++ [(kp k, .int ((n + ks.length : Nat)))]
  | [], n => rfl
  | x :: r, n => by
    show _ :: numF (n + 1) (r ++ [k]) = _
    rw [numF_snoc k r (n + 1), List.length_cons, show n + 1 + r.length = n + (r.length + 1) by omega]; rfl
theorem numF_keys : ∀ (ks : List Sx.St) (n : Nat), (numF n ks).map (·.1) = ks.map kp
  | [], n => rfl
  | x :: r, n => by
    show kp x :: (numF (n + 1) r).map (·.1) = _
    rw [numF_keys r (n + 1)]; rfl
theorem pos_cons {β : Type} [DecidableEq β] (x k : β) (r : List β) : Mo.pos (x :: r) k = if x = k then 0 else Mo.pos r k + 1 := by
  unfold Mo.pos
  rw [List.idxOf_cons]
  by_cases c : x = k
  · subst c; simp
  · have b1 : (x == k) = false := by simpa using c
    rw [b1, if_neg c]; rfl
theorem numF_mem {k : Sx.St} : ∀ {ks : List Sx.St} {n : Nat}, k ∈ ks → (kp k, V.int ((n + Mo.pos ks k : Nat))) ∈ numF n ks
  | x :: r, n, h => by
    rw [pos_cons]
    by_cases c : x = k
    · rw [if_pos c, c]
      exact List.mem_cons_self
    · have h' : k ∈ r := by
        rcases List.mem_cons.mp h with z | z
        · exact absurd z.symm c
        · exact z
      rw [if_neg c]
      rw [show n + (Mo.pos r k + 1) = n + 1 + Mo.pos r k by omega]
      exact List.mem_cons_of_mem _ (numF_mem h')
def NumD (w : World) (H : Hp) (d : Addr) (ks : List Sx.St) : Prop := ∃ kvs, DN w H d kvs ∧ kvs.map (fun x => (x.1, x.2.2)) = numE ks
theorem num_keys {kvs : List Kvv} {ks : List Sx.St} (h : kvs.map (fun x => (x.1, x.2.2)) = numE ks) : kvs.map (·.1) = NestedKey.none :: ks.map kp := by
  have := congrArg (List.map (·.1)) h
  rw [List.map_map] at this
  refine this.trans ?_
  show NestedKey.none :: (numF 0 ks).map (·.1) = _
  rw [numF_keys]
theorem num_in {kvs : List Kvv} {ks : List Sx.St} (h : kvs.map (fun x => (x.1, x.2.2)) = numE ks) (o : Option Sx.St) : okey o ∈ kvs.map (·.1) ↔ ∀ k, o = some k → k ∈ ks := by
  rw [num_keys h]
  cases o with
  | none => exact ⟨(fun _ k z => nomatch z), fun _ => List.mem_cons_self⟩
  | some k =>
    constructor
    · intro z k' e
      cases e
      rcases List.mem_cons.mp z with z | z
      · cases z
      · obtain ⟨y, hy, e⟩ := List.mem_map.mp z
        rw [← kp_inj e]; exact hy
    · intro z
      exact List.mem_cons_of_mem _ (List.mem_map.mpr ⟨k, z k rfl, rfl⟩)
theorem num_at {kvs : List Kvv} {ks : List Sx.St} (h : kvs.map (fun x => (x.1, x.2.2)) = numE ks) {o : Option Sx.St} (ho : ∀ k, o = some k → k ∈ ks) : ∃ i, (okey o, i, nV (o.map fun k => Mo.pos ks k)) ∈ kvs := by
  have hm : (okey o, nV (o.map fun k => Mo.pos ks k)) ∈ kvs.map (fun x => (x.1, x.2.2)) := by
    rw [h]
    cases o with
    | none => exact List.mem_cons_self
    | some k =>
      have := numF_mem (n := 0) (ho k rfl)
      rw [Nat.zero_add] at this
      exact List.mem_cons_of_mem _ this
  obtain ⟨x, hx, e⟩ := List.mem_map.mp hm
  injection e with e1 e2
  exact ⟨x.2.1, by rw [← e1, ← e2]; exact hx⟩
theorem num_len {kvs : List Kvv} {ks : List Sx.St} (h : kvs.map (fun x => (x.1, x.2.2)) = numE ks) : kvs.length = ks.length + 1 := by
  have := congrArg List.length (num_keys h)
  rw [List.length_map, List.length_cons, List.length_map] at this
  exact this
theorem dn_same {w : World} {H H' : Hp} {d : Addr} {kvs : List Kvv} (h : DN w H d kvs) (s : Same H H') : DN w H' d kvs := by
  obtain ⟨es, ep, e, r⟩ := h
  exact ⟨es, ep, s _ _ e, r.up fun b xs z => s _ _ z⟩
/-- what a handed function promises: a key's cells, as a new list -/
def CellL (H0 H : Hp) (v : V) (os : List (Option Sx.St)) : Prop := ∃ (l : Addr) (xs : List V), v = .ref l ∧ H0 l = none ∧ H l = some (.lst xs) ∧ Paired (IsOp H) xs os
def spFn (cells : Sx.St → List (Option Sx.St)) (D : Sx.St → Prop) : Sp := fun vs H Q _ => ∃ (x : V) (k : Sx.St), vs = [x] ∧ IsPr H x k ∧ D k ∧ ∀ v H', Same H H' → CellL H H' v (cells k) → Q v H'
theorem add_one (keys : List Sx.St) (l : List (Option Sx.St)) (o : Option Sx.St) : Bf.add keys (l ++ [o]) = Bf.add (Bf.add keys l) [o] := Mo.add_split l [o] keys
section
variable {P : Program} {w : World} {K : PySem.W.Frag} {mg : Str → Option Value} {base : Heap}
structure TgG (mg : Str → Option Value) : Prop where
  len : mg "len" = none
  tuple : mg "tuple" = none
theorem scGr : FnScope ["first", "cells", "most", "keys", "numbers", "table", "found", "key"] ["first", "cells", "most"] (C8.fnScope sGrown) := ⟨rfl, rfl, rfl, by decide +kernel, rfl, by decide +kernel, by decide +kernel⟩
/-- cells are known of all that come from the first, no more than N of them -/
structure GrOk (cells : Sx.St → List (Option Sx.St)) (D : Sx.St → Prop) (first : Sx.St) (N : Nat) : Prop where
  d0 : D first
  ds : ∀ k t, D k → some t ∈ cells k → D t
  bd : ∀ L : List Sx.St, L.Nodup → (∀ k ∈ L, D k) → L.length ≤ N
  nz : N ≤ 100000
  cl : ∀ k, (cells k).length ≤ 100
theorem GrOk.keys {cells : Sx.St → List (Option Sx.St)} {D : Sx.St → Prop} {first : Sx.St} {N : Nat} (g : GrOk cells D first N) : ∀ n, ∀ k ∈ (Bf.run cells first n).1, D k
  | 0 => fun k hk => by rw [List.mem_singleton.mp hk]; exact g.d0
  | n + 1 => fun k hk => by
    unfold Bf.run at hk
    cases e : (Bf.run cells first n).1[n]? with
    | none => rw [e] at hk; exact g.keys n k hk
    | some x =>
      rw [e] at hk
      rcases Bf.add_in _ hk with z | z
      · exact g.keys n k z
      · exact g.ds x k (g.keys n x (List.mem_of_getElem? e)) z
/-- the handed function: its cells, its promise -/
structure Hnd (P : Program) (w : World) (K : PySem.W.Frag) (mg : Str → Option Value) (base : Heap) (kc : Nat) (fr : List Str) (ws : List (Option V)) (F2 : NF) (cells : Sx.St → List (Option Sx.St)) (D : Sx.St → Prop) : Prop where
  ex : ∃ spn : List (Option V) → Sp, (∀ g, NOk P w K mg base CX0 kc g F2 ["tops"] fr spn) ∧ ∀ vs H Q E, spFn cells D vs H Q E → spn ws vs H Q E
def spGrown (P : Program) (w : World) (K : PySem.W.Frag) (mg : Str → Option Value) (base : Heap) (kc : Nat) (fr : List Str) (cl : List (Str × Addr)) (ws : List (Option V)) : Sp := fun vs H Q _ => ∃ (x : V) (g : Addr) (first : Sx.St) (cells : Sx.St → List (Option Sx.St)) (D : Sx.St → Prop) (N : Nat) (F2 : NF), vs = [x, .ref g, .non] ∧ IsPr H x first ∧ GrOk cells D first N ∧ F2.cl = cl ∧ H g = some (FnO g F2) ∧ H F2.c = some (CodeO F2.c F2.qual) ∧ Hnd P w K mg base kc fr ws F2 cells D ∧
  ∀ (n : Nat) (l : Addr) (xs : List V) (H' : Hp), (Bf.run cells first n).1.length = n → Same H H' → H' l = some (.lst xs) → Paired (IsRow H') xs (Bf.run cells first n).2 → Q (.ref l) H'
set_option maxHeartbeats 1000000 in
theorem ok_grown {kc : Nat} {fr : List Str} {f : Addr} {fd : FuncData} (F : FunD K "grown" "grown" (C8.fnArgs sGrown) (C8.fnBody sGrown) (C8.fnScope sGrown) [.non] [] f fd) (T : TgG mg) (cl : List (Str × Addr)) (ws : List (Option V)) :
    FnC P w K mg base (kc + 1) f fd ["first", "cells", "most"] (CapsAt cl fr ws) (spGrown P w K mg base kc fr cl ws) := by
  refine fnc_okD F scGr (fun vs H Q E h => ?_) (fun cdv A outer s0 H vs Q E hr hC h => ?_)
  · obtain ⟨x, g, first, cells, D, N, F2, rfl, _⟩ := h
    rfl
  · obtain ⟨x, g, first, cells, D, N, F2, rfl, hx, GO, rfl, hg, hc, HN, k⟩ := h
    obtain ⟨spn, Fn, imp⟩ := HN.ex
    have hu8 := Nat.lt_trans (Nat.add_lt_add_left (show 8 < 64 by decide) _) hr.units
    have hu9 := Nat.lt_trans (Nat.add_lt_add_left (show 9 < 64 by decide) _) hr.units
    have hu10 := Nat.lt_trans (Nat.add_lt_add_left (show 10 < 64 by decide) _) hr.units
    have hrc := hr
    have C := hC.1
    have nf : ∀ y c, F2.cl.lookup y = some c → c ∉ frs outer := hC.2
    have nx : ∀ y c, F2.cl.lookup y = some c → c ∉ ([] : List Addr) := fun _ _ _ z => nomatch z
    refine ⟨_, (pss_cons (ps_set (i := 3) scGr.nd rfl (Or.inl rfl) (pe_lst (pa_cons (pv 0) pa_nil)))
      (pss_cons (ps_set (i := 4) scGr.nd rfl (Or.inr rfl) (pe_disp2 hu8 pe_non pe_non (pv 0) pe_int))
      (pss_cons (ps_set (i := 5) scGr.nd rfl (Or.inl rfl) (pe_lst pa_nil))
      (pss_cons (ps_while PassesOwn.never (pt_cmpR op_lt (pe_callB call_len_seq (by rfl) T.len PySem.boot_len (pa_cons (pv 5) pa_nil)) (pe_callB call_len_seq (by rfl) T.len PySem.boot_len (pa_cons (pv 3) pa_nil)) (nomark _)) (pss_cons (ps_set (i := 6) scGr.nd rfl (Or.inl rfl) (pe_callP Fn C nf nx hrc (i := 1) rfl (Or.inl rfl) (pa_cons (pe_ix ix_list (pv 3) (pe_callB call_len_seq (by rfl) T.len PySem.boot_len (pa_cons (pv 5) pa_nil)) (fun _ _ => rfl)) pa_nil)))
      (pss_cons (ps_for PassesOwn.never rfl (pi_list (pv 6)) (pg_name (i := 7) scGr.nd rfl (Or.inl rfl)) (pss_one (ps_if (pt_cmpR (op_notInR hu9) (pv 7) (pv 4) (by rfl)) (pss_cons (ps_asg (pe_callB call_len_seq (by rfl) T.len PySem.boot_len (pa_cons (pv 3) pa_nil)) (pg_sub (pv 4) (pv 7) (set_any hu9)))
      (pss_one (ps_expr (pe_bm PySem.F.plainAttrs_list PySem.F.slot_list_append PySem.F.type_list_append mt_append (pv 3) (pa_cons (pv 7) pa_nil))))) pss_nil)))
      (pss_cons (ps_if (PW.pt (pw_and (pt_cmpR op_notN (pv 2) pe_non (nomark _)) (pw_and1 (pt_cmpR op_gt (pe_callB call_len_seq (by rfl) T.len PySem.boot_len (pa_cons (pv 3) pa_nil)) (pv 2) (nomark _))))) (pss_one ps_no) pss_nil)
      (pss_one (ps_expr (pe_bm PySem.F.plainAttrs_list PySem.F.slot_list_append PySem.F.type_list_append mt_append (pv 5) (pa_cons (pe_callTy call_tuple_of (by rfl) T.tuple boot_tuple (pa_cons (pe_lc (own := [("key", 7)]) (g := gName 7) (tt := tYes) rfl scGr.nd (pi_list (pv 6)) (blkOk_by (N := ["first", "cells", "most", "keys", "numbers", "table", "found", "key"]) (sc := defScope sGrown) (by decide +kernel)) (fun _ _ _ _ _ => (pg_name (i := 7) scGr.nd rfl (Or.inl rfl))) (fun _ _ _ _ _ => pts_nil) (fun _ _ _ _ _ => (show PE _ _ (tDGetR w (tVar 4) (tVar 7)) from pe_dgetR hu10 (pv 4) (pv 7) (fun _ _ => rfl)))) pa_nil)) pa_nil))))))))
      (pss_one (ps_ret (pv 5))))))), ?_⟩
    refine ⟨_, rfl, (by show 1 ≤ sizeLine; decide), fun kl nkl => ?_⟩
    have s1 := same_upd (o := .lst [x]) nkl
    obtain ⟨H1, hH1⟩ : ∃ H1, H1 = upd H kl (.lst [x]) := ⟨_, rfl⟩
    have hk1 : H1 kl = some (.lst [x]) := by rw [hH1]; exact upd_same
    rw [← hH1] at s1
    refine goHeap hH1 ?_
    clear hH1
    refine fun nd nnd => ?_
    have s2 := same_upd (o := rawO nd #[] 0) nnd
    refine ⟨_, rfl, .none, kp first, upd_same, .non, (keyv_pr hx).mono (s1.trans s2), by simp only [NestedKey.depth]; omega, kp_depth _, fun H5 f5 D5 => ?_⟩
    have s5 : Same H1 H5 := fun b o e => by
      have nb : b ≠ nd := fun z => by rw [z, nnd] at e; cases e
      rw [f5 b nb]; exact s2 _ _ e
    refine ⟨(by show 0 ≤ sizeLine; decide), fun tl ntl => ?_⟩
    have s6 := same_upd (o := .lst []) ntl
    have nnk : nd ≠ kl := fun z => by rw [z, hk1] at nnd; cases nnd
    have ntk : tl ≠ kl := fun z => by rw [z, s5 _ _ hk1] at ntl; cases ntl
    have ntn : tl ≠ nd := fun z => by
      obtain ⟨es, ep, e, _⟩ := D5
      rw [z, e] at ntl; cases ntl
    rw [putN_new (by show ¬ kp first ∈ [NestedKey.none]; intro z; cases List.mem_singleton.mp z)] at D5
    have N6 : NumD w (upd H5 tl (.lst [])) nd [first] := by
      obtain ⟨es, ep, e, r⟩ := D5
      exact ⟨_, ⟨es, ep, s6 _ _ e, r.up fun b xs z => s6 _ _ z⟩, rfl⟩
    refine ⟨fun m σ H2 => ∃ (n : Nat) (y6 y7 : Option V) (xs ts : List V), σ = [some x, some (.ref g), some .non, some (.ref kl), some (.ref nd), some (.ref tl), y6, y7] ∧ Same H H2 ∧ n ≤ (Bf.run cells first n).1.length ∧ m = N - n ∧ H2 kl = some (.lst xs) ∧ Paired (IsPr H2) xs (Bf.run cells first n).1 ∧ NumD w H2 nd (Bf.run cells first n).1 ∧ H2 tl = some (.lst ts) ∧ Paired (IsRow H2) ts (Bf.run cells first n).2, ⟨N, 0, none, none, [x], [], rfl, (s1.trans s5).trans s6, Nat.zero_le _, rfl, s6 _ _ (s5 _ _ hk1), .cons (hx.up (KpT.of ((s1.trans s5).trans s6))) .nil, N6, upd_same, .nil⟩, ?_⟩
    rintro m σ H2 ⟨n, y6, y7, xs, ts, rfl, s02, hn, rfl, hk, pk, nu, ht, pt⟩
    have lx : xs.length = (Bf.run cells first n).1.length := Paired.length pk
    obtain ⟨rl, rn⟩ := Bf.run_len (cells := cells) (first := first) n hn
    have lt : ts.length = n := (Paired.length pt).trans rl
    have kn := GO.bd _ rn (GO.keys n)
    refine ⟨_, rfl, tl, _, rfl, .inl (SqL.of ht), _, rfl, kl, _, rfl, .inl (SqL.of hk), _, _, rfl, rfl, _, rfl, ?_⟩
    rw [lt, lx]
    by_cases c : n = (Bf.run cells first n).1.length
    · refine ifF (decide_eq_false (by omega)) ?_
      exact ⟨_, rfl, k n tl ts H2 c.symm s02 ht pt⟩
    · refine ifT (decide_eq_true (by omega)) ⟨_, fun σ' H' h => h, ?_⟩
      have hlt : n < (Bf.run cells first n).1.length := by omega
      obtain ⟨k0, hk0⟩ : ∃ k0, (Bf.run cells first n).1[n]? = some k0 := ⟨_, List.getElem?_eq_getElem hlt⟩
      have dk0 := GO.keys n k0 (List.mem_of_getElem? hk0)
      obtain ⟨x0, hx0, px0⟩ : ∃ x0, xs[n]? = some x0 ∧ IsPr H2 x0 k0 := by
        have h1 : n < xs.length := by omega
        obtain ⟨b, g1, g2⟩ := L2.paired_get pk (List.getElem?_eq_getElem h1)
        rw [hk0] at g1
        cases g1
        exact ⟨_, List.getElem?_eq_getElem h1, g2⟩
      refine ⟨g, rfl, s02 _ _ hg, ?_⟩
      refine ⟨_, rfl, _, rfl, tl, _, rfl, .inl (SqL.of ht), kl, xs, ((ts.length : Nat) : Int), x0, rfl, rfl, SqL.of hk, atI_nat (by rw [lt]; exact hx0), ?_⟩
      refine ⟨s02 _ _ hg, s02 _ _ hc, imp _ _ _ _ ⟨x0, k0, rfl, px0, dk0, ?_⟩⟩
      rintro v0 H3 s3 ⟨fl, fs, rfl, nfl, hf, pf⟩
      obtain ⟨kvs3, dn3, en3⟩ : NumD w H3 nd (Bf.run cells first n).1 := by
        obtain ⟨kvs, ⟨es, ep, e, r⟩, en⟩ := nu
        exact ⟨kvs, ⟨es, ep, s3 _ _ e, r.up fun b xs z => s3 _ _ z⟩, en⟩
      have lf : fs.length = (cells k0).length := Paired.length pf
      have nkf : kl ≠ fl := fun z => by rw [← z, hk] at nfl; cases nfl
      have nnf : nd ≠ fl := fun z => by
        obtain ⟨_, ⟨es, ep, e, _⟩, _⟩ := nu
        rw [← z, e] at nfl; cases nfl
      have ntf : tl ≠ fl := fun z => by rw [← z, ht] at nfl; cases nfl
      refine ⟨_, rfl, fl, rfl, ⟨_, SqL.of hf⟩, for_it (walk_list (K := K) (a := fl) (xs := fs)) (fun i σ H4 => ∃ (y7 : Option V) (xs4 : List V), σ = [some x, some (.ref g), some .non, some (.ref kl), some (.ref nd), some (.ref tl), some (.ref fl), y7] ∧ (∀ c o, c ≠ kl → c ≠ nd → H3 c = some o → H4 c = some o) ∧ KpT H3 H4 ∧ H4 kl = some (.lst xs4) ∧ Paired (IsPr H4) xs4 (Bf.add (Bf.run cells first n).1 ((cells k0).take i)) ∧ NumD w H4 nd (Bf.add (Bf.run cells first n).1 ((cells k0).take i))) ?_ ?_ ?_ ?_⟩
      · exact ⟨_, xs, rfl, fun c o _ _ e => e, fun c ys e => e, s3 _ _ hk, prs_up (KpT.of s3) pk, kvs3, dn3, en3⟩
      · rintro i σ H4 _ ⟨y7, xs4, rfl, e4, _⟩
        exact SqL.of (e4 _ _ nkf.symm nnf.symm hf)
      · rintro i v σ Ho H4 hi ⟨y7, xs4, rfl, e4, t4, hk4, pk4, kvs4, dn4, en4⟩ ⟨rfl, hv⟩
        obtain ⟨o, ho, io⟩ := L2.paired_get pf hv
        have tk : (cells k0).take (i + 1) = (cells k0).take i ++ [o] := by rw [List.take_add_one, ho]; rfl
        rw [tk, add_one]
        have hin := num_in en4 o
        have nkt : ∀ c ys, H4 c = some (.tup ys) → c ≠ kl := fun c ys e z => by rw [z, hk4] at e; cases e
        have nnt : ∀ c ys, H4 c = some (.tup ys) → c ≠ nd := fun c ys e z => by
          obtain ⟨es, ep, e2, _⟩ := dn4
          rw [z, e2] at e; cases e
        refine ⟨_, rfl, _, rfl, nd, kvs4, okey o, rfl, .inl dn4, keyv_op (io.up t4), okey_depth o, _, rfl, ?_⟩
        rw [Bool.true_xor]
        by_cases c : okey o ∈ kvs4.map (·.1)
        · refine ifF (by rw [decide_eq_true c]; rfl) ?_
          have same : Bf.add (Bf.add (Bf.run cells first n).1 ((cells k0).take i)) [o] = Bf.add (Bf.run cells first n).1 ((cells k0).take i) := by
            cases o with
            | none => rfl
            | some k => exact if_pos (hin.mp c k rfl)
          rw [same]
          exact ⟨_, xs4, rfl, e4, t4, hk4, pk4, kvs4, dn4, en4⟩
        · refine ifT (by rw [decide_eq_false c]; rfl) ?_
          obtain ⟨kk, rfl, hkk⟩ : ∃ kk, o = some kk ∧ kk ∉ Bf.add (Bf.run cells first n).1 ((cells k0).take i) := by
            cases o with
            | none => exact absurd (hin.mpr fun _ z => nomatch z) c
            | some kk => exact ⟨kk, rfl, fun z => c (hin.mpr fun k' e => by cases e; exact z)⟩
          have e1 : Bf.add (Bf.add (Bf.run cells first n).1 ((cells k0).take i)) [some kk] = Bf.add (Bf.run cells first n).1 ((cells k0).take i) ++ [kk] := if_neg hkk
          rw [e1]
          refine ⟨_, rfl, kl, _, rfl, .inl (SqL.of hk4), ?_⟩
          have iv : IsPr H4 v kk := IsOp.up t4 io
          have lk4 := Paired.length pk4
          have nd4 : (Bf.add (Bf.run cells first n).1 ((cells k0).take i)).Nodup := Bf.add_nod _ rn
          have dk4 : ∀ z ∈ Bf.add (Bf.run cells first n).1 ((cells k0).take i), D z := fun z hz => by
            rcases Bf.add_in _ hz with z1 | z1
            · exact GO.keys n z z1
            · exact GO.ds k0 z dk0 (List.mem_of_mem_take z1)
          have b4 := GO.bd _ nd4 dk4
          have nz := GO.nz
          refine ⟨_, rfl, _, rfl, nd, kp kk, rfl, keyv_pr iv, kp_depth kk, .inr ⟨kvs4, dn4, (by rw [num_len en4, sizeLine_eq]; omega), fun H5 f5 D5 => ?_⟩⟩
          rw [putN_new (show kp kk ∉ kvs4.map (·.1) from c)] at D5
          have nkn : kl ≠ nd := fun z => by
            obtain ⟨es, ep, e2, _⟩ := dn4
            rw [← z, hk4] at e2; cases e2
          have hk5 : H5 kl = some (.lst xs4) := by rw [f5 _ nkn]; exact hk4
          have t5 : KpT H4 H5 := fun c ys e => by rw [f5 _ (nnt c ys e)]; exact e
          refine ⟨_, rfl, .inl ⟨rfl, _, SqL.of hk5⟩, _, rfl, kl, xs4, v, rfl, rfl, hk5, (by rw [sizeLine_eq]; omega), ?_⟩
          have t6 : KpT H5 (upd H5 kl (.lst (xs4 ++ [v]))) := fun c ys e => by rw [upd_ne (fun z => by rw [z, hk5] at e; cases e)]; exact e
          refine ⟨_, xs4 ++ [v], rfl, fun c o h1 h2 e => ?_, fun c ys e => t6 _ _ (t5 _ _ (t4 _ _ e)), upd_same, paired_app (prs_up t6 (prs_up t5 pk4)) (.cons (iv.up fun c ys e => t6 _ _ (t5 _ _ e)) .nil), kvs4 ++ [(kp kk, v, .int (xs4.length : Nat))], ?_, ?_⟩
          · rw [upd_ne h1, f5 _ h2]; exact e4 c o h1 h2 e
          · obtain ⟨es, ep, e2, r2⟩ := D5
            exact ⟨es, ep, by rw [upd_ne nkn.symm]; exact e2, r2.up t6⟩
          · rw [List.map_append, en4, lk4]
            unfold numE
            rw [numF_snoc, Nat.zero_add]; rfl
      · rintro σ H4 ⟨y7, xs4, rfl, e4, t4, hk4, pk4, kvs4, dn4, en4⟩
        rw [lf, List.take_length] at pk4 en4
        refine ⟨_, rfl, rfl, _, rfl, ?_⟩
        refine ifF (by decide) (ifF rfl ?_)
        have ht4 := e4 _ _ ntk ntn (s3 _ _ ht)
        have hf4 := e4 _ _ nkf.symm nnf.symm hf
        have run1 := Bf.run_next hk0
        have in1 : ∀ kk, some kk ∈ cells k0 → kk ∈ Bf.add (Bf.run cells first n).1 (cells k0) := fun kk h => Bf.add_mem _ h
        refine ⟨_, rfl, .inl ⟨rfl, _, SqL.of ht4⟩, ?_⟩
        refine ⟨_, rfl, fl, rfl, ⟨_, SqL.of hf4⟩, fun Dl nDl => lc_pr (walk_list (K := K) (a := fl) (xs := fs)) (fun i v Hx => ∃ o, (cells k0)[i]? = some o ∧ v = nV (o.map fun kk => Mo.pos (Bf.add (Bf.run cells first n).1 (cells k0)) kk)) (fun i v Ha Hb _ h => h) nDl (by have := GO.cl k0; rw [lf, sizeLine_eq]; omega) (fun Hx sx => SqL.of (sx _ _ hf4)) (fun i y Ha Hb hi sb yy Q2 R2 q2 => ?_) fun H7 us s7 hD lus hus => ?_⟩
        · obtain ⟨rfl, hv⟩ := yy
          obtain ⟨o, ho, io⟩ := L2.paired_get pf hv
          refine ⟨rfl, tyes ?_⟩
          obtain ⟨iv, mv⟩ := num_at en4 (o := o) fun kk e => in1 kk (by rw [← e]; exact List.mem_of_getElem? ho)
          exact ⟨_, rfl, _, rfl, nd, kvs4, okey o, iv, _, rfl, .inl (dn_same dn4 sb), keyv_op (io.up fun c ys e => sb _ _ (t4 _ _ e)), okey_depth o, mv, q2 _ _ (Same.refl _) ⟨o, ho, rfl⟩⟩
        · have eus : us = (Bf.row (Bf.add (Bf.run cells first n).1 (cells k0)) (cells k0)).map nV := by
            unfold Bf.row
            rw [List.map_map]
            refine list_by _ (by rw [lus, lf]) fun i o ho => ?_
            have hi : i < us.length := by rw [lus, lf]; exact (List.getElem?_eq_some_iff.mp ho).1
            obtain ⟨o', ho', e⟩ := hus i _ (List.getElem?_eq_getElem hi)
            rw [ho] at ho'
            cases ho'
            rw [List.getElem?_eq_getElem hi, e]; rfl
          subst eus
          refine ⟨Dl, _, rfl, .inl ⟨SqL.of hD, fun l nl => ?_⟩⟩
          have s8 := same_upd (o := .tup ((Bf.row (Bf.add (Bf.run cells first n).1 (cells k0)) (cells k0)).map nV)) nl
          have s78 := s7.trans s8
          have ht8 := s78 _ _ ht4
          have nz := GO.nz
          refine ⟨tl, ts, .ref l, rfl, rfl, ht8, (by rw [lt, sizeLine_eq]; omega), ?_⟩
          obtain ⟨H8, hH8⟩ : ∃ H8, H8 = upd H7 l (.tup ((Bf.row (Bf.add (Bf.run cells first n).1 (cells k0)) (cells k0)).map nV)) := ⟨_, rfl⟩
          have hl8 : H8 l = some (.tup ((Bf.row (Bf.add (Bf.run cells first n).1 (cells k0)) (cells k0)).map nV)) := by rw [hH8]; exact upd_same
          rw [← hH8] at s78 ht8
          refine goHeap (congrArg (fun Z => upd Z tl (.lst (ts ++ [.ref l]))) hH8) ?_
          clear hH8 s8
          have t9 : KpT H8 (upd H8 tl (.lst (ts ++ [.ref l]))) := fun c ys e => by rw [upd_ne (fun z => by rw [z, ht8] at e; cases e)]; exact e
          have t28 : KpT H2 H8 := fun c ys e => s78 _ _ (t4 _ _ (s3 _ _ e))
          have t29 : KpT H2 (upd H8 tl (.lst (ts ++ [.ref l]))) := fun c ys e => t9 _ _ (t28 _ _ e)
          refine ⟨N - (n + 1), by omega, n + 1, _, y7, xs4, ts ++ [.ref l], rfl, fun c o e => ?_, ?_, rfl, ?_, ?_, ?_, upd_same, ?_⟩
          · have e2 := s02 _ _ e
            have c1 : c ≠ kl := fun z => by rw [z, nkl] at e; cases e
            have c2 : c ≠ nd := fun z => by rw [z] at e; rw [s1 _ _ e] at nnd; cases nnd
            have c3 : c ≠ tl := fun z => by rw [z] at e; rw [s5 _ _ (s1 _ _ e)] at ntl; cases ntl
            rw [upd_ne c3]
            exact s78 _ _ (e4 _ _ c1 c2 (s3 _ _ e2))
          · rw [run1]
            have := Bf.nd_le rn (fun z hz => Bf.add_old (cells k0) hz)
            dsimp only
            omega
          · rw [upd_ne ntk.symm]; exact s78 _ _ hk4
          · rw [run1]; exact prs_up t9 (prs_up (KpT.of s78) pk4)
          · rw [run1]
            obtain ⟨es, ep, e, r⟩ := dn_same dn4 s78
            exact ⟨kvs4, ⟨es, ep, by rw [upd_ne ntn.symm]; exact e, r.up t9⟩, en4⟩
          · rw [run1]
            exact paired_app (rows_up t29 pt) (.cons ⟨l, rfl, t9 _ _ hl8⟩ .nil)
end
end My

set_option linter.all false
namespace My
open PySem PySem.Spec PyProof.Rows L2 NdefX LamX
/-! ### stretch, and its cells -/
abbrev sStretch : Stmt := topS 16
def sCells : Stmt := (C8.fnBody sStretch).getD 3 (.Pass ⟨0, 0, 0, 0⟩)
abbrev frC : List Str := ["base", "high_bottom", "low_bottom"]
abbrev qCells : Str := "stretch.<locals>.cells"
def nfC (cl : List (Str × Addr)) (c : Addr) : NF := NF.of sCells "cells" qCells cl c
structure TgM (mg : Str → Option Value) : Prop where
  range : mg "range" = none
  max : mg "max" = none
  min : mg "min" = none
theorem scCe : NScope ["tops", "base", "high_bottom", "low_bottom", "found", "digit", "begins", "ends", "empty"] ["tops"] frC (C8.fnScope sCells) := nscope_by (by decide +kernel)
def spCells : List (Option V) → Sp := fun ws vs H Q _ => ∃ (B : Nat) (p q : Int) (x : V) (k : Sx.St), ws = [some (.int (B : Nat)), some (.int q), some (.int p)] ∧ vs = [x] ∧ IsPr H x k ∧ B ≤ 100 ∧ ∀ v H', Same H H' → CellL H H' v (Sx.pcells B p q k) → Q v H'
section
variable {P : Program} {w : World} {K : PySem.W.Frag} {mg : Str → Option Value} {base : Heap}
theorem ok_cells (T : TgM mg) (cl : List (Str × Addr)) (c g : Addr) : NOk P w K mg base CX0 1 g (nfC cl c) ["tops"] frC spCells := by
  refine nok_of scCe (fun doc pm ctv us hl => ?_) (fun ws vs H Q E h => ?_) (fun A outer s H vs ws Q E hr hf hc hw h => ?_)
  · match us, hl with
    | [u], _ => rfl
  · obtain ⟨B, p, q, x, k, _, rfl, _⟩ := h
    rfl
  · obtain ⟨B, p, q, x, kk, rfl, rfl, ⟨tp, rfl, htp⟩, hB, k⟩ := h
    have body : ∃ t, PSs (ncx CX0 P w K mg base ["tops", "base", "high_bottom", "low_bottom", "found", "digit", "begins", "ends", "empty"] (nfC cl c) g A outer s H E).nox (C8.fnBody sCells) t ∧ t { nx := fun _ H' => Q .non H', rt := Q } (startF ["tops", "base", "high_bottom", "low_bottom", "found", "digit", "begins", "ends", "empty"] [.ref tp] [some (.int (B : Nat)), some (.int q), some (.int p)]) H := by
      refine ⟨_, (pss_cons (ps_set (i := 4) scCe.nd rfl (Or.inl rfl) (pe_lst pa_nil))
      (pss_cons (ps_for PassesOwn.never rfl (pi_range1 (by rfl) T.range (pa_cons (pv 1) pa_nil)) (pg_name (i := 5) scCe.nd rfl (Or.inl rfl)) (pss_cons (ps_set (i := 6) scCe.nd rfl (Or.inl rfl) (pe_op op_sub (pe_op op_mul (pe_ix ix_tup (pv 0) pe_int (fun _ _ => rfl)) (pv 1)) (pe_op op_mul (pv 5) (pv 3))))
      (pss_cons (ps_set (i := 7) scCe.nd rfl (Or.inl rfl) (pe_op op_sub (pe_op op_mul (pe_ix ix_tup (pv 0) pe_int (fun _ _ => rfl)) (pv 1)) (pe_op op_mul (pv 5) (pv 2))))
      (C8.pss_cut (ps_set (i := 8) scCe.nd rfl (Or.inl rfl) (pe_or (pe_cmpR op_gt (pv 6) (pv 3) (nomark _)) (pe_one (pe_cmpR op_lt (pv 7) pe_int (nomark _)))))
      (pss_one (ps_expr (pe_bm PySem.F.plainAttrs_list PySem.F.slot_list_append PySem.F.type_list_append mt_append (pv 4) (pa_cons (pe_ifExp (pt_val (pv 8)) pe_non (pe_tup (pa_cons (pe_callB (call_max2 rfl) (by rfl) T.max boot_max (pa_cons (pv 6) (pa_cons pe_int pa_nil))) (pa_cons (pe_callB (call_min2 rfl) (by rfl) T.min boot_min (pa_cons (pv 7) (pa_cons (pv 2) pa_nil))) pa_nil)))) pa_nil))))))))
      (pss_one (ps_ret (pv 4))))), ?_⟩
      refine ⟨(by show 0 ≤ sizeLine; decide), fun fl nfl => ?_⟩
      have s1 := same_upd (o := .lst []) nfl
      have cm : ∀ z, CMul z (B : Int) := fun z => .inr ⟨by omega, by omega⟩
      refine ⟨_, rfl, (B : Int), rfl, by omega, by omega, ?_⟩
      rw [Int.toNat_natCast]
      refine for_it (walk_range (lo := 0) (n := B)) (fun i σ Hi => ∃ (y5 y6 y7 y8 : Option V) (xs : List V), σ = [some (.ref tp), some (.int (B : Nat)), some (.int q), some (.int p), some (.ref fl), y5, y6, y7, y8] ∧ Same H Hi ∧ Hi fl = some (.lst xs) ∧ Paired (IsOp Hi) xs ((List.range i).map fun (d : Nat) => Sx.pstep (B : Int) p q (d : Int) kk)) ⟨_, _, _, _, [], rfl, s1, upd_same, .nil⟩ (fun _ _ _ _ _ => trivial) ?_ ?_
      · rintro i v σ Ho Hi hi ⟨y5, y6, y7, y8, xs, rfl, si, hfl, px⟩ ⟨rfl, rfl⟩
        have lx : xs.length = i := by
          have := Paired.length px
          rwa [List.length_map, List.length_range] at this
        have cd : ∀ z, CMul (0 + (i : Int)) z := fun z => .inl ⟨by omega, by omega⟩
        have ht := si _ _ htp
        refine ⟨_, rfl, tp, _, 0, _, rfl, rfl, SqT.of ht, rfl, _, rfl, _, _, rfl, rfl, cm _, _, rfl, _, rfl, _, _, rfl, rfl, cd _, _, _, rfl, rfl, ?_⟩
        refine ⟨_, rfl, tp, _, 1, _, rfl, rfl, SqT.of ht, rfl, _, rfl, _, _, rfl, rfl, cm _, _, rfl, _, rfl, _, _, rfl, rfl, cd _, _, _, rfl, rfl, ?_⟩
        dsimp only
        rw [Int.zero_add]
        generalize hb : kk.1 * (B : Int) - (i : Int) * p = b
        generalize he : kk.2 * (B : Int) - (i : Int) * q = e
        refine ⟨fun σ' H' => H' = Hi ∧ σ' = [some (.ref tp), some (.int (B : Nat)), some (.int q), some (.int p), some (.ref fl), some (.int (i : Nat)), some (.int b), some (.int e), some (.bl (decide (b > p ∨ e < 0)))], ?_, ?_⟩
        · refine ⟨_, rfl, _, rfl, _, _, rfl, rfl, _, rfl, ?_⟩
          by_cases c1 : p < b
          · refine ifT (decide_eq_true c1) ⟨rfl, ?_⟩
            rw [decide_eq_true (show b > p ∨ e < 0 from .inl c1)]; rfl
          · refine ifF (decide_eq_false c1) ⟨_, rfl, _, _, rfl, rfl, ⟨rfl, ?_⟩⟩
            have e1 : (b > p ∨ e < 0) ↔ e < 0 := ⟨fun z => z.resolve_left c1, .inr⟩
            rw [decide_eq_decide.mpr e1]; rfl
        · rintro σ' H' ⟨rfl, rfl⟩
          refine ⟨_, rfl, .inl ⟨rfl, _, SqL.of hfl⟩, ?_⟩
          have er : (List.range (i + 1)).map (fun (d : Nat) => Sx.pstep (B : Int) p q (d : Int) kk) = (List.range i).map (fun (d : Nat) => Sx.pstep (B : Int) p q (d : Int) kk) ++ [if b > p ∨ e < 0 then none else some (max b 0, min e q)] := by
            rw [List.range_succ, List.map_append, ← hb, ← he]; rfl
          have nz : xs.length < sizeLine := by rw [lx, sizeLine_eq]; omega
          rw [er]
          by_cases c1 : b > p ∨ e < 0
          · rw [if_pos c1]
            refine ⟨_, rfl, _, rfl, ifT (decide_eq_true c1) ⟨fl, xs, _, rfl, rfl, hfl, nz, ?_⟩⟩
            have t2 : KpT H' (upd H' fl (.lst (xs ++ [V.non]))) := fun c ys e => by rw [upd_ne (fun z => by rw [z, hfl] at e; cases e)]; exact e
            exact ⟨_, _, _, _, _, rfl, fun c o e => by rw [upd_ne (fun z => by rw [z, nfl] at e; cases e)]; exact si _ _ e, upd_same, paired_app (ops_up t2 px) (.cons rfl .nil)⟩
          · rw [if_neg c1]
            refine ⟨_, rfl, _, rfl, ifF (decide_eq_false c1) ⟨_, rfl, _, _, rfl, _, rfl, _, rfl, _, _, rfl, (by show 2 ≤ sizeLine; decide), fun t nt => ?_⟩⟩
            have e1 : (if (0 : Int) > b then 0 else b) = max b 0 := by split <;> omega
            have e2 : (if q < e then q else e) = min e q := by split <;> omega
            rw [e1, e2]
            have st := same_upd (o := .tup [.int (max b 0), .int (min e q)]) nt
            have hfl2 := st _ _ hfl
            have ht2 : (upd H' t (.tup [.int (max b 0), .int (min e q)])) t = some (.tup [.int (max b 0), .int (min e q)]) := upd_same
            refine ⟨fl, xs, _, rfl, rfl, hfl2, nz, ?_⟩
            generalize upd H' t (.tup [.int (max b 0), .int (min e q)]) = H2 at st hfl2 ht2 ⊢
            have t2 : KpT H2 (upd H2 fl (.lst (xs ++ [V.ref t]))) := fun c ys e => by rw [upd_ne (fun z => by rw [z, hfl2] at e; cases e)]; exact e
            exact ⟨_, _, _, _, _, rfl, fun c o e => by rw [upd_ne (fun z => by rw [z, nfl] at e; cases e)]; exact st _ _ (si _ _ e), upd_same, paired_app (ops_up t2 (ops_up (KpT.of st) px)) (.cons ⟨t, rfl, t2 _ _ ht2⟩ .nil)⟩
      · rintro σ Hi ⟨y5, y6, y7, y8, xs, rfl, si, hfl, px⟩
        exact ⟨_, rfl, k _ _ si ⟨fl, xs, rfl, nfl, hfl, px⟩⟩
    obtain ⟨t, ht, q⟩ := body
    exact ⟨t, ht.nox, q⟩
end
/-! a stretch's states -/
structure EndsOk (B : Nat) (a p b q : Int) : Prop where
  b0 : 2 ≤ B
  b1 : B ≤ 10
  a0 : 0 ≤ a
  a1 : a ≤ p
  p0 : 0 < p
  p1 : p ≤ 60
  c0 : 0 ≤ b
  c1 : b ≤ q
  q0 : 0 < q
  q1 : q ≤ 60
theorem mem_phi {B : Nat} {p q : Int} (hp : 0 < p) (hq : 0 < q) {s t : Sx.St} (h : some t ∈ Sx.pcells B p q s) : some (Sx.phi p q t) ∈ Sx.cells B (p * q) (Sx.phi p q s) := by
  rw [Sx.cells_phi hp hq]
  exact List.mem_map.mpr ⟨some t, h, rfl⟩
theorem EndsOk.al {B : Nat} {a p b q : Int} (h : EndsOk B a p b q) (le : a * q ≤ b * p) : Sx.Al (p * q) (Sx.phi p q (a, b)) := by
  have q0 := h.q0
  have p0 := h.p0
  refine ⟨Int.mul_nonneg h.a0 (by omega), le, ?_⟩
  show b * p ≤ p * q
  rw [Int.mul_comm p q]
  exact Int.mul_le_mul_of_nonneg_right h.c1 (by omega)
theorem EndsOk.gr {B : Nat} {a p b q : Int} (h : EndsOk B a p b q) (le : a * q ≤ b * p) : GrOk (Sx.pcells B p q) (fun k => Sx.Al (p * q) (Sx.phi p q k)) (a, b) 3721 := by
  have q0 := h.q0
  have p0 := h.p0
  have q1 := h.q1
  have p1 := h.p1
  refine ⟨h.al le, fun k t d hm => Sx.cells_al (B := B) (Int.mul_pos p0 q0) d (mem_phi p0 q0 hm), fun L nd hL => ?_, by omega, fun k => ?_⟩
  · have := Bf.nd_le (C := Sx.box p.toNat q.toNat) nd fun k hk => Sx.box_mem (by
      obtain ⟨g1, g2, g3, g4⟩ := (hL k hk).of p0 q0
      exact ⟨g1, by omega, g3, by omega⟩)
    rw [Sx.box_len] at this
    exact Nat.le_trans this (Nat.mul_le_mul (show p.toNat + 1 ≤ 61 by omega) (show q.toNat + 1 ≤ 61 by omega))
  · unfold Sx.pcells
    rw [List.length_map, List.length_range]
    have := h.b1
    omega
section
variable {P : Program} {w : World} {K : PySem.W.Frag} {mg : Str → Option Value} {base : Heap}
theorem okXC {x qual : Str} {st : Stmt} {f c : Addr} {fd : FuncData} {N ps : List Str} {k : Nat} {sp : Sp} (F : Fun K x qual st f fd) (hc : fd.code = .ref c) (S : FnScope N ps (defScope st)) (len : ∀ vs H Q E, sp vs H Q E → vs.length = ps.length)
    (hbody : ∀ (A : Around) (outer : List Env) (s : Shared) (H : Hp) (vs : List V) (Q : VK) (E : XK), Room k (A.deeper (envOfC qual (defScope st) s.heap.objs.size f (.ref c))) → sp vs H Q E →
      ∃ t, PSs (cxOf (L2.CX P w) P w K mg base N qual (defScope st) f (.ref c) A outer s H E) (defBody st) t ∧ t { nx := fun _ H' => Q .non H', rt := Q } (start N vs) H) : FnOk P w K mg base (L2.CX P w) (k + 1) f fd ps sp := by
  obtain ⟨oc, od, kV, doc, pm, an, cdv, ct, osl, rfl, lk, hcd⟩ := F.ex
  have e : cdv = .ref c := hc
  subst e
  exact fn_of lk hcd S len fun A outer s H vs Q E hr hsp => hbody A outer s H vs Q E hr hsp
structure TgS (mg : Str → Option Value) : Prop where
  tuple : mg "tuple" = none
theorem scSt : FnScope ["base", "low", "high", "low_top", "low_bottom", "high_top", "high_bottom", "cells"] ["base", "low", "high"] (defScope sStretch) := ⟨rfl, rfl, rfl, by decide +kernel, rfl, by decide +kernel, by decide +kernel⟩
theorem hndef : ndefB (defScope sStretch) (C8.fnScope sCells) frC = true := by decide +kernel
abbrev tabC (Pt : Addr) : List NTab := [(Pt, fun _ _ => qCells)]
def spSt (C Pt : Addr) : Sp := fun vs H Q E => ∃ (B : Nat) (x y : V) (a p b q : Int), vs = [.int (B : Nat), x, y] ∧ IsPr H x (a, p) ∧ IsPr H y (b, q) ∧ EndsOk B a p b q ∧ TabsN (tabC Pt) H ∧ (b * p < a * q → ∀ H', Same H H' → E (.ref C) none H') ∧
  (a * q ≤ b * p → ∀ (n : Nat) (t r : Addr) (xs : List V) (H' : Hp), (Bf.run (Sx.pcells B p q) (a, b) n).1.length = n → ExtN H H' → TabsN (tabC Pt) H' → H' t = some (.tup [.int (B : Nat), .ref r]) → H' r = some (.tup xs) → Paired (IsRow H') xs (Bf.run (Sx.pcells B p q) (a, b) n).2 → Q (.ref t) H')
theorem ok_st {f fGr c Pt C : Addr} {fd fdGr : FuncData} {dsG : List Value} (F : Fun K "stretch" "stretch" sStretch f fd) (hcd : fd.code = .ref c) (TB : TabB base mg c Pt) (T : TgS mg) (TM : TgM mg)
    (FGr : FunD K "grown" "grown" (C8.fnArgs sGrown) (C8.fnBody sGrown) (C8.fnScope sGrown) [.non] [] fGr fdGr) (GGr : ∀ (cl : List (Str × Addr)) (ws : List (Option V)), FnC P w K mg base 2 fGr fdGr ["first", "cells", "most"] (CapsAt cl frC ws) (spGrown P w K mg base 1 frC cl ws)) (bGr : Binds K fdGr ["first", "cells", "most"] dsG) (dvG : Vals [V.non] dsG) (gGr : mg "grown" = some (.ref fGr))
    (qC : PySem.W.excIn K C [.type "ValueError", .type "Exception", .type "BaseException", .type "object"] "ValueError.__new__" = true) (gC : mg "NoStretch" = some (.ref C)) (kC : PySem.W.keepIn K (.ref C) = true) (sC : PySem.W.subIn K (.ref C) (.type "BaseException") = some true) (tC : PySem.W.typeIn K (.ref C) = some (.type "type")) :
    FnOk P w K mg base (L2.CX P w) 3 f fd ["base", "low", "high"] (spSt C Pt) := by
  refine okXC F hcd scSt (fun vs H Q E h => ?_) (fun A outer s H vs Q E hr h => ?_)
  · obtain ⟨B, x, y, a, p, b, q, rfl, _⟩ := h
    rfl
  · obtain ⟨B, x, y, a, p, b, q, rfl, ⟨tx, rfl, hx⟩, ⟨ty, rfl, hy⟩, EO, TT, kn, ky⟩ := h
    have hr2 := hr
    have rC := raises_own (X := cxOf (L2.CX P w) P w K mg base ["base", "low", "high", "low_top", "low_bottom", "high_top", "high_bottom", "cells"] "stretch" (defScope sStretch) f (.ref c) A outer s H E) sC tC
    have hm : (Pt, fun _ _ => qCells) ∈ tabC Pt := List.mem_cons_self
    have hu : ∀ z ∈ tabC Pt, z.1 = Pt → z.2 = fun _ _ => qCells := fun z hz _ => by rw [List.mem_singleton.mp hz]
    obtain ⟨cl, hcl⟩ : ∃ cl, cl = cloFrom (envOfC "stretch" (defScope sStretch) s.heap.objs.size f (.ref c)).cells (C8.fnScope sCells).names [] := ⟨_, rfl⟩
    have cp : (cxOf (L2.CX P w) P w K mg base ["base", "low", "high", "low_top", "low_bottom", "high_top", "high_bottom", "cells"] "stretch" (defScope sStretch) f (.ref c) A outer s H E).Ok → Caps (cxOf (L2.CX P w) P w K mg base ["base", "low", "high", "low_top", "low_bottom", "high_top", "high_bottom", "cells"] "stretch" (defScope sStretch) f (.ref c) A outer s H E) cl frC [0, 6, 4] := fun ok => by
      rw [hcl]
      exact Caps.made ok (ndef_free (sc := defScope sStretch) hndef) (ndef_fr hndef) rfl
    have own : ∀ y c, cl.lookup y = some c → (fun _ : Str => true) y = true := fun _ _ _ => rfl
    refine ⟨_, (pss_cons (ps_asg (pv 1) (pg_tup (by rfl) (pgs_cons (pg_name (i := 3) scSt.nd rfl (Or.inl rfl)) (pgs_cons (pg_name (i := 4) scSt.nd rfl (Or.inr rfl)) pgs_nil))))
      (pss_cons (ps_asg (pv 2) (pg_tup (by rfl) (pgs_cons (pg_name (i := 5) scSt.nd rfl (Or.inl rfl)) (pgs_cons (pg_name (i := 6) scSt.nd rfl (Or.inr rfl)) pgs_nil))))
      (pss_cons (ps_if (pt_cmpR op_gt (pe_op op_mul (pv 3) (pv 6)) (pe_op op_mul (pv 5) (pv 4)) (nomark _)) (pss_one (ps_raise rfl (takes_of rfl rfl rfl rfl) (pmk_own PySem.F.excBase_ValueError qC gC kC rC (by rfl)))) pss_nil)
      (pss_cons (ps_ndefS (i := 7) rfl TB rfl hm rfl hu (ndef_free (sc := defScope sStretch) (nsc := C8.fnScope sCells) hndef) rfl rfl rfl scSt.nd rfl (Or.inl rfl) (Or.inl rfl))
      (pss_one (ps_ret (pe_tup (pa_cons (pv 0) (pa_cons (pe_callTy call_tuple_of (by rfl) T.tuple boot_tuple (pa_cons (pe_callC (fun ws => GGr cl ws) own rfl hr2 (by rfl) gGr FGr.kp bGr dvG cp (pa_cons (pe_tup (pa_cons (pv 3) (pa_cons (pv 5) pa_nil))) (pa_cons (pv 7) pa_nil))) pa_nil)) pa_nil))))))))), ?_⟩
    have a0 := EO.a0
    have a1 := EO.a1
    have p1 := EO.p1
    have c0 := EO.c0
    have c1 := EO.c1
    have q1 := EO.q1
    refine ⟨_, rfl, tx, _, rfl, SqT.of hx, rfl, _, _, rfl, _, _, rfl, rfl, ?_⟩
    refine ⟨_, rfl, ty, _, rfl, SqT.of hy, rfl, _, _, rfl, _, _, rfl, rfl, ?_⟩
    refine ⟨_, rfl, _, rfl, _, _, rfl, rfl, .inl ⟨by omega, by omega⟩, _, rfl, _, rfl, _, _, rfl, rfl, .inl ⟨by omega, by omega⟩, _, _, rfl, rfl, _, rfl, ?_⟩
    by_cases lt : b * p < a * q
    · exact ifT (decide_eq_true lt) (kn lt _ (Same.refl _))
    · refine ifF (decide_eq_false lt) ?_
      have le : a * q ≤ b * p := by omega
      refine ⟨TT, fun g c' H1 e1 T1 ng hg hc => ?_⟩
      have hg' : H1 g = some (FnO g (nfC cl c')) := by rw [hcl]; exact hg
      have hc' : H1 (nfC cl c').c = some (CodeO (nfC cl c').c (nfC cl c').qual) := hc
      clear hg hc
      refine ⟨_, rfl, ?_⟩
      refine ⟨_, rfl, _, rfl, (by show 2 ≤ sizeLine; decide), fun t0 nt0 => ⟨_, rfl, ?_⟩⟩
      have s2 := same_upd (o := .tup [.int a, .int b]) nt0
      refine ⟨.ref t0, g, (a, b), Sx.pcells B p q, fun k => Sx.Al (p * q) (Sx.phi p q k), 3721, nfC cl c', rfl, ⟨t0, rfl, upd_same⟩, EO.gr le, rfl, s2 _ _ hg', s2 _ _ hc', ⟨spCells, fun g => ok_cells TM cl c' g, ?_⟩, ?_⟩
      · rintro vs H2 Q2 E2 ⟨x, k, rfl, px, _, kk⟩
        exact ⟨B, p, q, x, k, rfl, rfl, px, by have := EO.b1; omega, kk⟩
      · intro n l xs H2 hn sm hl pl
        refine ⟨l, xs, rfl, .inl ⟨SqL.of hl, fun t nt => ?_⟩⟩
        have s3 := same_upd (o := .tup xs) nt
        refine ⟨(by show 2 ≤ sizeLine; decide), fun r nr => ?_⟩
        have s4 := same_upd (o := .tup [.int (B : Nat), .ref t]) nr
        have s14 : Same H1 (upd (upd H2 t (.tup xs)) r (.tup [.int (B : Nat), .ref t])) := ((s2.trans sm).trans s3).trans s4
        exact ky le n r t xs _ hn (fun c o e nb => s14 _ _ (e1 c o e nb)) (T1.ext s14) upd_same (s4 _ _ upd_same) (rows_up (KpT.of (s3.trans s4)) pl)
end
end My

set_option linter.all false
namespace My
open PySem PySem.Spec PyProof.Rows L2
/-! ### a list beside the empty one; how long a text is that is shown -/
section
variable {X : Cx}
def rNil (K : PySem.W.Frag) (f : Bool → Bool) : R2 := fun x y H Q => ∃ (a b : Addr) (xs : List V), x = .ref a ∧ y = .ref b ∧ SqL K H a xs ∧ SqL K H b [] ∧ Q (.bl (f xs.isEmpty)) H
theorem op_eqNil (hu : X.A.units + 64 < cLine) : OpR X (compareOp .Eq) (rNil X.K id) := by
  intro pins s σ H x y v u Q I rx ry h
  obtain ⟨a, b, xs, rfl, rfl, ha, hb, q⟩ := h
  cases (show v = Value.ref a from rx)
  cases (show u = Value.ref b from ry)
  obtain ⟨us, r1, p1, _⟩ := I.list ha
  obtain ⟨ws, r2, p2, _⟩ := I.list hb
  cases r2
  cases xs with
  | nil =>
    cases r1
    exact SeqAt.RcAt.lists (e := fun _ => true) p1.isList p2.isList rfl (by omega) (fun j h1 _ => absurd h1 (Nat.not_lt_zero _)) _ _ _ _ ⟨.bl true, H, I, rfl, q⟩
  | cons z zs =>
    cases r1 with
    | cons e1 e2 => exact SeqAt.RcAt.lists_lengths p1.isList p2.isList (by simp) (by omega) _ _ _ _ ⟨.bl false, H, I, rfl, q⟩
theorem op_neNil (hu : X.A.units + 64 < cLine) : OpR X (compareOp .NotEq) (rNil X.K not) := by
  intro pins s σ H x y v u Q I rx ry h
  obtain ⟨a, b, xs, rfl, rfl, ha, hb, q⟩ := h
  cases (show v = Value.ref a from rx)
  cases (show u = Value.ref b from ry)
  obtain ⟨us, r1, p1, _⟩ := I.list ha
  obtain ⟨ws, r2, p2, _⟩ := I.list hb
  cases r2
  cases xs with
  | nil =>
    cases r1
    exact SeqAt.RcNeAt.lists (e := fun _ => true) p1.isList p2.isList rfl (by omega) (fun j h1 _ => absurd h1 (Nat.not_lt_zero _)) _ _ _ _ ⟨.bl false, H, I, rfl, q⟩
  | cons z zs =>
    cases r1 with
    | cons e1 e2 => exact SeqAt.RcNeAt.lists_lengths p1.isList p2.isList (by simp) (by omega) _ _ _ _ ⟨.bl true, H, I, rfl, q⟩
/-- a tuple beside the empty one -/
def rNilT (K : PySem.W.Frag) : R2 := fun x y H Q => ∃ (a b : Addr) (xs : List V), x = .ref a ∧ y = .ref b ∧ SqT K H a xs ∧ SqT K H b [] ∧ Q (.bl (!xs.isEmpty)) H
theorem op_neNilT (hu : X.A.units + 64 < cLine) : OpR X (compareOp .NotEq) (rNilT X.K) := by
  intro pins s σ H x y v u Q I rx ry h
  obtain ⟨a, b, xs, rfl, rfl, ha, hb, q⟩ := h
  cases (show v = Value.ref a from rx)
  cases (show u = Value.ref b from ry)
  obtain ⟨us, r1, p1, _⟩ := I.tuple ha
  obtain ⟨ws, r2, p2, _⟩ := I.tuple hb
  cases r2
  have t1 : s.heap.IsTuple a us.toArray := let ⟨o, ho, hc, n, hd⟩ := p1; ⟨o, ho, hc, n, hd⟩
  have t2 : s.heap.IsTuple b [].toArray := let ⟨o, ho, hc, n, hd⟩ := p2; ⟨o, ho, hc, n, hd⟩
  have e : us.toArray.isEmpty = xs.isEmpty := by cases r1 <;> rfl
  have key := SeqAt.RcNeAt.tuples (e := fun _ => true) t1 t2 (show X.A.units < cLine by omega) (fun j h1 h2 => absurd h2 (Nat.not_lt_zero _)) X.prog X.w X.xe (EP X pins σ Q)
  refine key ?_
  have e2 : (!((List.range (min us.toArray.size ([] : List Value).toArray.size)).all (fun _ => true) && us.toArray.size == ([] : List Value).toArray.size)) = !xs.isEmpty := by
    cases r1 <;> simp
  rw [e2]
  exact ⟨.bl (!xs.isEmpty), H, I, rfl, q⟩
end
end My

set_option linter.all false
namespace My
open PySem PySem.Spec PyProof.Rows L2
/-! ### _law_kept: no state is left out -/
abbrev sKept : Stmt := topS 24
def tDNewN : TE := fun _ H Q => ∀ p, H p = none → Q (.ref p) (upd H p (rawO p #[] 0))
theorem pe_dnewN {X : Cx} {pos : Pos} : PE X (.Dict [] [] pos) tDNewN := ⟨fun pins s σ H Q I h =>
  wpAny_Dict_empty ⟨.ref s.heap.objs.size, _, I.laid (a := s.heap.objs.size) (o := rawO s.heap.objs.size #[] 0) (t' := s.toks) (fun _ _ q => Heap.get?_push_of_some _ q) (Nat.le_refl _)
    (ext_ok ⟨_, Heap.get?_push_size _ rfl, ⟨rfl, rfl, rfl⟩, rfl⟩ (beq_eq_false_iff_ne.mpr (Nat.ne_of_gt I.big))), rfl, h _ (I.hok.fresh (Nat.le_refl _))⟩⟩
theorem dn_new {w : World} {H : Hp} {p : Addr} : DN w (upd H p (rawO p #[] 0)) p [] := ⟨#[], 0, upd_same, .nil, List.nodup_nil, Nat.zero_le _⟩
theorem but_tup {p : Addr} {H H' : Hp} (n : ∀ xs, H p ≠ some (.tup xs)) (b : But p H H') : KpT H H' := fun c xs e => b c _ (fun z => n xs (by rw [← z]; exact e)) e
theorem DF.but {w : World} {H H' : Hp} {d p : Addr} {kvs : List Kvv} (h : DF w H d kvs) (ne : d ≠ p) (n : ∀ xs, H p ≠ some (.tup xs)) (b : But p H H') : DF w H' d kvs := by
  obtain ⟨od, u, es, ep, h1, h2, h3, h4, h5, h6⟩ := h
  exact ⟨od, u, es, ep, b _ _ ne h1, h2, h3, h4, h5.up (but_tup n b), h6⟩
/-- a table of states: to each its cells, as a list -/
def TabE (H : Hp) (cells : Sx.St → List (Option Sx.St)) (e : Kvv) (s : Sx.St) : Prop := e.1 = kp s ∧ IsPr H e.2.1 s ∧ ∃ (l : Addr) (xs : List V), e.2.2 = .ref l ∧ H l = some (.lst xs) ∧ Paired (IsOp H) xs (cells s)
def TabL (H : Hp) (cells : Sx.St → List (Option Sx.St)) (kvs : List Kvv) (L : List Sx.St) : Prop := Paired (TabE H cells) kvs L
theorem TabE.but {H H' : Hp} {p : Addr} {cells : Sx.St → List (Option Sx.St)} {e : Kvv} {s : Sx.St} (h : TabE H cells e s) (n1 : ∀ xs, H p ≠ some (.tup xs)) (n2 : ∀ xs, H p ≠ some (.lst xs)) (b : But p H H') : TabE H' cells e s := by
  obtain ⟨h1, h2, l, xs, h3, h4, h5⟩ := h
  have t := but_tup n1 b
  exact ⟨h1, h2.up t, l, xs, h3, b _ _ (fun z => n2 xs (by rw [← z]; exact h4)) h4, ops_up t h5⟩
theorem TabE.same {H H' : Hp} {cells : Sx.St → List (Option Sx.St)} {e : Kvv} {s : Sx.St} (h : TabE H cells e s) (b : Same H H') : TabE H' cells e s := by
  obtain ⟨h1, h2, l, xs, h3, h4, h5⟩ := h
  exact ⟨h1, h2.up (KpT.of b), l, xs, h3, b _ _ h4, ops_up (KpT.of b) h5⟩
theorem TabL.same {H H' : Hp} {cells : Sx.St → List (Option Sx.St)} {kvs : List Kvv} {L : List Sx.St} (h : TabL H cells kvs L) (b : Same H H') : TabL H' cells kvs L := Paired.mapP h fun _ _ z => z.same b
theorem TabL.but {H H' : Hp} {p : Addr} {cells : Sx.St → List (Option Sx.St)} {kvs : List Kvv} {L : List Sx.St} (h : TabL H cells kvs L) (n1 : ∀ xs, H p ≠ some (.tup xs)) (n2 : ∀ xs, H p ≠ some (.lst xs)) (b : But p H H') : TabL H' cells kvs L := Paired.mapP h fun _ _ z => z.but n1 n2 b
theorem TabL.keys {H : Hp} {cells : Sx.St → List (Option Sx.St)} {kvs : List Kvv} {L : List Sx.St} (h : TabL H cells kvs L) : kvs.map (·.1) = L.map kp := by
  unfold TabL at h
  induction h with
  | nil => rfl
  | cons h t ih => rw [List.map_cons, List.map_cons, ih, h.1]
theorem TabL.len {H : Hp} {cells : Sx.St → List (Option Sx.St)} {kvs : List Kvv} {L : List Sx.St} (h : TabL H cells kvs L) : kvs.length = L.length := Paired.length h
theorem kp_mem {L : List Sx.St} {s : Sx.St} : kp s ∈ L.map kp ↔ s ∈ L :=
  ⟨fun h => by
    obtain ⟨x, hx, e⟩ := List.mem_map.mp h
    rw [← kp_inj e]; exact hx, fun h => List.mem_map.mpr ⟨s, h, rfl⟩⟩
theorem TabL.in_ {H : Hp} {cells : Sx.St → List (Option Sx.St)} {kvs : List Kvv} {L : List Sx.St} (h : TabL H cells kvs L) (o : Option Sx.St) : okey o ∈ kvs.map (·.1) ↔ ∃ t, o = some t ∧ t ∈ L := by
  rw [h.keys]
  cases o with
  | none =>
    constructor
    · intro z
      obtain ⟨x, _, e⟩ := List.mem_map.mp z
      cases e
    · rintro ⟨t, e, _⟩; cases e
  | some k => exact ⟨fun z => ⟨k, rfl, kp_mem.mp z⟩, fun ⟨t, e, ht⟩ => by cases e; exact kp_mem.mpr ht⟩
theorem TabL.at_ {H : Hp} {cells : Sx.St → List (Option Sx.St)} {kvs : List Kvv} {L : List Sx.St} (h : TabL H cells kvs L) {s : Sx.St} (hs : s ∈ L) : ∃ (i : V) (l : Addr) (xs : List V), (kp s, i, .ref l) ∈ kvs ∧ H l = some (.lst xs) ∧ Paired (IsOp H) xs (cells s) := by
  obtain ⟨j, hj⟩ := List.mem_iff_getElem?.mp hs
  have hl := h.len
  have hjl := (List.getElem?_eq_some_iff.mp hj).1
  have he : kvs[j]? = some (kvs[j]'(by omega)) := List.getElem?_eq_getElem _
  obtain ⟨s', g1, g2⟩ := L2.paired_get h he
  rw [hj] at g1
  cases g1
  obtain ⟨h1, h2, l, xs, h3, h4, h5⟩ := g2
  have hm : kvs[j]'(by omega) ∈ kvs := List.mem_of_getElem? he
  generalize kvs[j]'(by omega) = e at h1 h2 h3 hm
  obtain ⟨e1, e2, e3⟩ := e
  dsimp only at h1 h3
  subst h1 h3
  exact ⟨e2, l, xs, hm, h4, h5⟩
structure KpOk (cells : Sx.St → List (Option Sx.St)) (L : List Sx.St) : Prop where
  nd : L.Nodup
  ne : L ≠ []
  cl : ∀ s ∈ L, ∀ t, some t ∈ cells s → t ∈ L
  go : ∀ s ∈ L, ∃ t, some t ∈ cells s
  bd : ∀ s ∈ L, 0 ≤ s.1 ∧ s.1 ≤ 3600 ∧ 0 ≤ s.2 ∧ s.2 ≤ 3600
  ln : ∀ s, (cells s).length ≤ 100
  sz : L.length ≤ 5000
theorem kp_hash {P : Program} {w : World} (s : Sx.St) : (kp s).hash w = tupleKeyHash (mixKind P w) [Sum.inl s.1, Sum.inl s.2] := by
  have e : NestedKey.hashes w [.num s.1, .num s.2] = [Sum.inl s.1, Sum.inl s.2].map (mixKind P w).hash := by
    simp only [NestedKey.hashes, NestedKey.hash]
    rfl
  unfold kp tupleKeyHash
  rw [NestedKey.hash, e]
theorem nod_abs {f : Sx.St → Int} {g : List Key → Int} {L : List Sx.St} (fg : ∀ s, f s = g [Sum.inl s.1, Sum.inl s.2]) (bd : ∀ s ∈ L, 0 ≤ s.1 ∧ 0 ≤ s.2)
    (gn : ((L.map fun s => (s.1.toNat, s.2.toNat)).map fun q => g [Sum.inl ((q.1 : Nat) : Int), Sum.inl ((q.2 : Nat) : Int)]).Nodup) : (L.map f).Nodup := by
  rw [List.map_map] at gn
  have e : L.map f = L.map ((fun q : Nat × Nat => g [Sum.inl ((q.1 : Nat) : Int), Sum.inl ((q.2 : Nat) : Int)]) ∘ fun s => (s.1.toNat, s.2.toNat)) := by
    refine List.map_congr_left fun s hs => ?_
    obtain ⟨a1, a3⟩ := bd s hs
    show f s = g [Sum.inl ((s.1.toNat : Nat) : Int), Sum.inl ((s.2.toNat : Nat) : Int)]
    rw [Int.toNat_of_nonneg a1, Int.toNat_of_nonneg a3, fg]
  rw [e]; exact gn
theorem KpOk.nat {cells : Sx.St → List (Option Sx.St)} {L : List Sx.St} (h : KpOk cells L) : (L.map fun s => (s.1.toNat, s.2.toNat)).Nodup ∧ ∀ q ∈ L.map (fun s => (s.1.toNat, s.2.toNat)), q.1 ≤ 3600 ∧ q.2 ≤ 3600 := by
  refine ⟨List.pairwise_map.mpr (List.Pairwise.imp_of_mem (R := fun a b => a ≠ b) (fun {a b} ha hb ne z => ne ?_) h.nd), fun q hq => ?_⟩
  · injection z with z1 z2
    obtain ⟨a1, a2, a3, a4⟩ := h.bd a ha
    obtain ⟨b1, b2, b3, b4⟩ := h.bd b hb
    exact Prod.ext (by omega) (by omega)
  · obtain ⟨s, hs, rfl⟩ := List.mem_map.mp hq
    obtain ⟨a1, a2, a3, a4⟩ := h.bd s hs
    exact ⟨by show s.1.toNat ≤ 3600; omega, by show s.2.toNat ≤ 3600; omega⟩
theorem KpOk.hash {P : Program} {w : World} {cells : Sx.St → List (Option Sx.St)} {L : List Sx.St} (h : KpOk cells L) : (L.map fun s => (kp s).hash w).Nodup :=
  nod_abs (g := tupleKeyHash (mixKind P w)) (fun s => kp_hash s) (fun s hs => ⟨(h.bd s hs).1, (h.bd s hs).2.2.1⟩) (pk_apart (P := P) (w := w) h.nat.1 h.nat.2)
section
variable {P : Program} {w : World} {K : PySem.W.Frag} {mg : Str → Option Value} {base : Heap}
structure TgK (mg : Str → Option Value) : Prop where
  dict : mg "dict" = none
  len : mg "len" = none
theorem scKp : FnScope ["table", "left", "fresh", "state", "row", "other"] ["table"] (defScope sKept) := ⟨rfl, rfl, rfl, by decide +kernel, rfl, by decide +kernel, by decide +kernel⟩
def spKept (w : World) : Sp := fun vs H Q _ => ∃ (t : Addr) (kvs : List Kvv) (cells : Sx.St → List (Option Sx.St)) (L : List Sx.St), vs = [.ref t] ∧ DR w H t kvs ∧ TabL H cells kvs L ∧ KpOk cells L ∧
  ∀ (f : Addr) (kvs' : List Kvv) (H' : Hp), H f = none → Same H H' → DN w H' f kvs' → TabL H' cells kvs' L → Q (.ref f) H'
set_option maxHeartbeats 1000000 in
theorem ok_kept {f : Addr} {fd : FuncData} (F : Fun K "_law_kept" "_law_kept" sKept f fd) (T : TgK mg) : FnOk P w K mg base CX0 1 f fd ["table"] (spKept w) := by
  refine F.ok scKp (fun vs H Q E h => ?_) (fun cdv A outer s0 H vs Q E hr h => ?_)
  · obtain ⟨t, kvs, cells, L, rfl, _⟩ := h
    rfl
  · obtain ⟨t, kvs, cells, L, rfl, dr, tl, KO, k⟩ := h
    have hu9 := Nat.lt_trans (Nat.add_lt_add_left (show 9 < 64 by decide) _) hr.units
    have hu10 := Nat.lt_trans (Nat.add_lt_add_left (show 10 < 64 by decide) _) hr.units
    have sz := KO.sz
    refine ⟨_, (pss_cons (ps_set (i := 1) scKp.nd rfl (Or.inr rfl) (pe_callTy call_dictCp (by rfl) T.dict boot_dict (pa_cons (pv 0) pa_nil)))
      (pss_one (ps_while PassesOwn.never (pt_val pe_bl) (pss_cons (ps_set (i := 2) scKp.nd rfl (Or.inl rfl) pe_dnewN)
      (pss_cons (ps_for PassesOwn.never rfl (pi_keysF (pe_frz (pv 1))) (pg_name (i := 3) scKp.nd rfl (Or.inl rfl)) (pss_cons (ps_setLc (i := 4) (own := [("other", 5)]) (g := gName 5) (tt := tYes) rfl scKp.nd rfl (by rfl) (sw_true (by rfl) (by rfl) (by rfl) (by rfl)) (pi_list (pe_dgetR hu10 (pv 1) (pv 3) (fun _ _ => rfl))) (blkOk_by (N := ["table", "left", "fresh", "state", "row", "other"]) (sc := defScope sKept) (by decide +kernel)) (fun _ _ _ _ _ => (pg_name (i := 5) scKp.nd rfl (Or.inl rfl))) (fun _ _ _ _ _ => pts_nil) (fun _ _ _ _ _ => (pe_ifExp (pt_cmpR (show OpR _ _ (rInR w false) from op_inR hu9) (pv 5) (pv 1) (by rfl)) (pv 5) pe_non)))
      (pss_one (ps_if (pt_cmpR (op_neNil hr.units) (pe_lc (own := [("other", 5)]) (g := gName 5) rfl scKp.nd (show PI _ _ _ (iList K _) from pi_list (pv 4)) (blkOk_by (N := ["table", "left", "fresh", "state", "row", "other"]) (sc := defScope sKept) (by decide +kernel)) (fun _ _ _ _ _ => (pg_name (i := 5) scKp.nd rfl (Or.inl rfl))) (fun _ _ _ _ _ => (pts_one (pt_cmpR op_notN (pv 5) pe_non (nomark _)))) (fun _ _ _ _ _ => (pv 5))) (pe_lst pa_nil) (nomark _)) (pss_one (ps_asg (pv 4) (pg_sub (pv 2) (pv 3) (set_any hu9)))) pss_nil))))
      (pss_cons (ps_if (pt_cmpR op_eq (pe_callB call_lenR (by rfl) T.len PySem.boot_len (pa_cons (pv 2) pa_nil)) (pe_callB call_lenR (by rfl) T.len PySem.boot_len (pa_cons (pv 1) pa_nil)) (nomark _)) (pss_one (ps_ret (pv 2))) pss_nil)
      (pss_one (ps_set (i := 1) scKp.nd rfl (Or.inr rfl) (pv 2))))))))), ?_⟩
    refine ⟨_, rfl, t, kvs, rfl, dr, ?_, ?_, ?_, fun d H1 nd f1 D1 => ?_⟩
    · intro z
      have := tl.len
      rw [z] at this
      exact KO.ne (List.length_eq_zero_iff.mp this.symm)
    · intro x hx
      obtain ⟨j, hj⟩ := List.mem_iff_getElem?.mp hx
      obtain ⟨s, _, g⟩ := L2.paired_get tl hj
      exact ⟨_, g.1⟩
    · have := congrArg (List.map fun z : NestedKey => z.hash w) tl.keys
      rw [List.map_map, List.map_map] at this
      have h2 := KO.hash (P := P) (w := w)
      exact (show (L.map fun s => (kp s).hash w) = _ from this.symm) ▸ h2
    · have s1 : Same H H1 := fun b o e => by rw [f1 b (fun z => by rw [z, nd] at e; cases e)]; exact e
      have tl1 := tl.same s1
      refine ⟨fun m σ H2 => m = 0 ∧ σ = [some (.ref t), some (.ref d), none, none, none, none] ∧ H2 = H1, ⟨0, rfl, rfl, rfl⟩, ?_⟩
      rintro m σ H2 ⟨rfl, rfl, rfl⟩
      refine ⟨_, rfl, ifT rfl ⟨_, fun σ' H' h => h, ?_⟩⟩
      refine fun fr nfr => ?_
      have s2 := same_upd (o := rawO fr #[] 0) nfr
      have D2 := dn_same D1 s2
      obtain ⟨es, ep, g1, g2⟩ := D2
      have g0 : H2 d = some (rawO d es ep) := by
        obtain ⟨es0, ep0, a1, _⟩ := D1
        have := s2 _ _ a1
        rw [g1] at this
        rw [a1]; exact this.symm
      have nfd : fr ≠ d := fun z => by rw [z, g0] at nfr; cases nfr
      refine ⟨_, rfl, d, .inr ⟨kvs, es, ep, g1, g2, fun od df => ⟨d, kvs, rfl, df, fun od2 u2 e2 => ?_⟩⟩⟩
      have bf : But d (upd H2 fr (rawO fr #[] 0)) (upd (upd H2 fr (rawO fr #[] 0)) d (.frz od (rawO d es ep))) := But.upd
      have hfr : (upd (upd H2 fr (rawO fr #[] 0)) d (.frz od (rawO d es ep))) fr = some (rawO fr #[] 0) := by rw [upd_ne nfd]; exact upd_same
      obtain ⟨Hf, hHf⟩ : ∃ Hf, Hf = upd (upd H2 fr (rawO fr #[] 0)) d (.frz od (rawO d es ep)) := ⟨_, rfl⟩
      rw [← hHf] at bf hfr df e2
      refine goHeap hHf ?_
      clear hHf
      have tlf : TabL Hf cells kvs L := (tl1.same s2).but (fun xs z => by rw [g1] at z; cases z) (fun xs z => by rw [g1] at z; cases z) bf
      have sHf : Same H Hf := fun c o e => bf _ _ (fun z => by rw [z, nd] at e; cases e) (s2 _ _ (s1 _ _ e))
      have nft : ∀ xs, Hf fr ≠ some (.tup xs) := fun xs z => by rw [hfr] at z; cases z
      have nfl : ∀ xs, Hf fr ≠ some (.lst xs) := fun xs z => by rw [hfr] at z; cases z
      have lkv := tlf.len
      refine for_it walk_keysF (fun i σ Hi => ∃ (y3 y4 y5 : Option V) (kv : List Kvv), σ = [some (.ref t), some (.ref d), some (.ref fr), y3, y4, y5] ∧ But fr Hf Hi ∧ DN w Hi fr kv ∧ TabL Hi cells kv (L.take i)) ?_ ?_ ?_ ?_
      · refine ⟨_, _, _, [], rfl, fun c o _ e => e, ?_, .nil⟩
        exact ⟨#[], 0, hfr, .nil, List.nodup_nil, Nat.zero_le _⟩
      · rintro i σ Hi _ ⟨y3, y4, y5, kv, rfl, bi, _⟩
        exact ⟨⟨u2, bi _ _ nfd.symm e2⟩, df.but nfd.symm nft bi⟩
      · rintro i v σ Ho Hi hi ⟨y3, y4, y5, kv, rfl, bi, dn, tk⟩ ⟨rfl, kk, val, hk⟩
        obtain ⟨s, hs, ek, pv, l, xs, el, hl, px⟩ := L2.paired_get tlf hk
        dsimp only at ek pv el
        subst ek el
        have ti := but_tup nft bi
        have hnl : l ≠ fr := fun z => nfl _ (by rw [← z]; exact hl)
        have hli := bi _ _ hnl hl
        have dfi := df.but nfd.symm nft bi
        have lxs : xs.length = (cells s).length := Paired.length px
        have lns := KO.ln s
        refine ⟨_, rfl, _, rfl, d, kvs, kp s, v, .ref l, rfl, .inr dfi, keyv_pr (pv.up ti), kp_depth s, List.mem_of_getElem? hk, l, rfl, ⟨_, SqL.of hli⟩, fun R nR => lc_pr (walk_list (K := K) (a := l) (xs := xs)) (fun j u Hx => xs[j]? = some u) (fun j u Ha Hb _ h => h) nR (by rw [sizeLine_eq]; omega) (fun Hx sx => SqL.of (sx _ _ hli)) (fun j y Ha Hb hj sb yy Q2 R2 q2 => ?_) fun H7 us s7 hR lus hus => ?_⟩
        · obtain ⟨rfl, hv⟩ := yy
          obtain ⟨o, ho, io⟩ := L2.paired_get px hv
          refine ⟨rfl, tyes ?_⟩
          have hin := tlf.in_ o
          refine ⟨_, rfl, _, rfl, d, kvs, okey o, rfl, .inr (dfi.mono sb), keyv_op (io.up fun c ys e => sb _ _ (ti _ _ e)), okey_depth o, _, rfl, ?_⟩
          rw [Bool.false_xor]
          cases o with
          | none =>
            refine ifF (decide_eq_false fun z => ?_) ?_
            · obtain ⟨t, e, _⟩ := hin.mp z
              cases e
            · cases (show y = V.non from io)
              exact q2 _ _ (Same.refl _) hv
          | some t =>
            refine ifT (decide_eq_true (hin.mpr ⟨t, rfl, KO.cl s (List.mem_of_getElem? hs) t (List.mem_of_getElem? ho)⟩)) ⟨_, rfl, q2 _ _ (Same.refl _) hv⟩
        · have eus : us = xs := by
            refine List.ext_getElem? fun j => ?_
            by_cases c : j < us.length
            · rw [hus j _ (List.getElem?_eq_getElem c), List.getElem?_eq_getElem c]
            · rw [List.getElem?_eq_none (by omega), List.getElem?_eq_none (by omega)]
          subst eus
          have px7 : Paired (IsOp H7) us (cells s) := ops_up (fun c ys e => s7 _ _ (ti _ _ e)) px
          refine ⟨_, rfl, R, rfl, ⟨_, SqL.of hR⟩, fun R2 nR2 => lc_prf (walk_list (K := K) (a := R) (xs := us)) (fun j => ((cells s)[j]?.getD none).isSome) (fun _ _ _ => True) (fun _ _ _ _ _ h => h) nR2 (by rw [sizeLine_eq]; omega) (fun Hx sx => SqL.of (sx _ _ hR)) (fun j y Ha Hb hj sb yy Q2 R2 qt qf => ?_) fun H8 us2 s8 hR2 lus2 _ => ?_⟩
          · obtain ⟨rfl, hv⟩ := yy
            obtain ⟨o, ho, io⟩ := L2.paired_get px7 hv
            refine ⟨rfl, ?_⟩
            refine ⟨_, rfl, rfl, _, rfl, ?_⟩
            cases o with
            | none =>
              cases (show y = V.non from io)
              exact ifF (by simp) (qf (by rw [ho]; rfl) _ (Same.refl _))
            | some t =>
              obtain ⟨tt, rfl, _⟩ := io
              exact ifT (by simp) ⟨_, rfl, qt (by rw [ho]; rfl) _ _ (Same.refl _) trivial⟩
          · refine ⟨(by show 0 ≤ sizeLine; decide), fun Z nZ => ?_⟩
            have s9 := same_upd (o := .lst []) nZ
            refine ⟨R2, Z, us2, rfl, rfl, SqL.of (s9 _ _ hR2), SqL.of upd_same, _, rfl, ?_⟩
            have ne2 : us2 ≠ [] := fun z => by
              obtain ⟨t, ht⟩ := KO.go s (List.mem_of_getElem? hs)
              obtain ⟨j, hj⟩ := List.mem_iff_getElem?.mp ht
              have : j ∈ (List.range us.length).filter fun j => ((cells s)[j]?.getD none).isSome := List.mem_filter.mpr ⟨List.mem_range.mpr (by rw [lus, lxs]; exact (List.getElem?_eq_some_iff.mp hj).1), by rw [hj]; rfl⟩
              have p0 := List.length_pos_of_mem this
              rw [← lus2, z] at p0
              exact absurd p0 (Nat.lt_irrefl _)
            refine ifT (by cases us2 with | nil => exact absurd rfl ne2 | cons _ _ => rfl) ?_
            have s79 : Same Hi (upd H8 Z (.lst [])) := (s7.trans s8).trans s9
            have hR9 := s9 _ _ (s8 _ _ hR)
            generalize upd H8 Z (.lst []) = H9 at s79 hR9 ⊢
            have dn9 := dn_same dn s79
            have tk9 := tk.same s79
            have lkk := tk.len
            rw [List.length_take] at lkk
            refine ⟨_, rfl, _, rfl, _, rfl, fr, kp s, rfl, keyv_pr (pv.up fun c ys e => s79 _ _ (ti _ _ e)), kp_depth s, .inr ⟨kv, dn9, by rw [sizeLine_eq]; omega, fun H5 f5 D5 => ?_⟩⟩
            have nin : kp s ∉ kv.map (·.1) := by
              rw [tk.keys]
              intro z
              have z2 := kp_mem.mp z
              obtain ⟨j, hj⟩ := List.mem_iff_getElem?.mp z2
              rw [List.getElem?_take] at hj
              split at hj
              · rename_i hji
                have := (List.getElem?_inj (List.getElem?_eq_some_iff.mp hj).1 KO.nd).mp (hj.trans hs.symm)
                omega
              · cases hj
            rw [putN_new nin] at D5
            have n9 : ∃ es ep, H9 fr = some (rawO fr es ep) := let ⟨es, ep, e, _⟩ := dn9; ⟨es, ep, e⟩
            obtain ⟨es9, ep9, n9⟩ := n9
            have b5 : But fr H9 H5 := fun c o h e => by rw [f5 c h]; exact e
            have t5 : KpT H9 H5 := but_tup (fun xs z => by rw [n9] at z; cases z) b5
            have tk1 : L.take (i + 1) = L.take i ++ [s] := by rw [List.take_add_one, hs]; rfl
            refine ⟨_, _, _, _, rfl, fun c o h e => b5 _ _ h (s79 _ _ (bi _ _ h e)), D5, ?_⟩
            rw [tk1]
            refine paired_app (tk9.but (fun xs z => by rw [n9] at z; cases z) (fun xs z => by rw [n9] at z; cases z) b5) (.cons ⟨rfl, pv.up fun c ys e => t5 _ _ (s79 _ _ (ti _ _ e)), R, us, rfl, b5 _ _ (fun z => by rw [z, n9] at hR9; cases hR9) hR9, ?_⟩ .nil)
            exact ops_up (fun c ys e => t5 _ _ (s79 _ _ (ti _ _ e))) px
      · rintro σ Hi ⟨y3, y4, y5, kv, rfl, bi, dn, tk⟩
        rw [lkv, List.take_length] at tk
        have lk2 := tk.len
        have dfi := df.but nfd.symm nft bi
        refine ⟨_, rfl, fr, kv, rfl, .inl dn, _, rfl, d, kvs, rfl, .inr dfi, rfl, _, rfl, ?_⟩
        rw [lkv, lk2]
        refine ifT (by simp) ⟨_, rfl, k fr kv Hi ?_ ?_ dn tk⟩
        · cases e : H fr with
          | none => rfl
          | some o => rw [s1 _ _ e] at nfr; cases nfr
        · exact fun c o e => bi _ _ (fun z => by rw [z] at e; rw [s1 _ _ e] at nfr; cases nfr) (sHf _ _ e)
end
end My

set_option linter.all false
namespace My
open PySem PySem.Spec PyProof.Rows L2
/-! ### dicts of parts, of marks, of numbers -/
def tBMR (w : World) (r : V → List V → Hp → VK → Prop) (to : TE) (t : TA) : TE := fun σ H Q => to σ H fun x H1 => (∃ d kvs, x = .ref d ∧ DR w H1 d kvs) ∧ t σ H1 fun xs H2 => r x xs H2 Q
theorem pe_bmR {X : Cx} {o e : Expr} {es : List Expr} {to : TE} {t : TA} {name : Str} {apos cpos : Pos} {id : String} {r : V → List V → Hp → VK → Prop} (pa : PlainAttrs "dict") (slot : Slot "dict" name id) (hty : typeOf (.builtin id) = pure (.type "method_descriptor")) (hm : MtR X id r) (ho : PE X o to) (ha : PA X (e :: es) t)
    (hbase : attributeBase o name X.env (eval o X.env) = eval o X.env := by rfl)
    (hfew : ((backTo cpos (starEach (e :: es) X.env)).all (fun x => !x.1) && (backToKw cpos (keywordEach [] X.env)).all (fun x => x.1.isSome)
      && decide ((e :: es).length + ([] : List Keyword).length + (if ([] : List Keyword).isEmpty then 0 else 1) < 30)) = true := by rfl)
    (hline : (apos.endLine == cpos.line) = true := by rfl) (hs : starEach (e :: es) X.env = (false, eval e X.env) :: starEach es X.env := by rfl) (hplain : (backTo cpos (starEach es X.env)).any (·.1) = false := by rfl) :
    PE X (.Call (.Attribute o name apos) (e :: es) [] cpos) (tBMR X.w r to t) := by
  refine ⟨fun pins s σ H Q I h => ?_⟩
  refine wpAny_Call_method_late hbase hfew hline rfl (thn (ho.run pins s σ H _ I h) fun v s1 ⟨x, H1, I1, r1, ⟨d, kvs, ex, dr⟩, q1⟩ => ?_)
  obtain ⟨od, es', ep, hod, hx, hdt, _⟩ := dr.raw I1.hok
  subst ex
  have ev : v = Value.ref d := r1
  subst ev
  refine ⟨"dict", id, pa, slot, hty, ⟨od, hod, hx.1⟩, (fun b z => by cases z; exact ⟨od, hod, hx.2.1⟩), ?_⟩
  have hA := ha.run cpos pins s1 σ H1 _ I1 q1
  rw [hs] at hA ⊢
  refine Calls.callWith_builtin (by show (false || (backTo cpos (starEach es X.env)).any (·.1)) = false; rw [hplain] <;> rfl) (Calls.evalArgs_plain ?_)
  exact thn hA fun us s2 ⟨vs, H2, I2, r2, q2⟩ => hm pins s2 σ H2 _ vs _ us Q I2 r1 r2 q2
/-- a dict of parts -/
def PartE (H : Hp) (f : Sx.St → Nat) (e : Kvv) (s : Sx.St) : Prop := e.1 = kp s ∧ IsPr H e.2.1 s ∧ e.2.2 = .int ((f s : Nat) : Int)
def PartK (H : Hp) (f : Sx.St → Nat) (kvs : List Kvv) (L : List Sx.St) : Prop := Paired (PartE H f) kvs L
theorem PartK.up {H H' : Hp} {f : Sx.St → Nat} {kvs : List Kvv} {L : List Sx.St} (h : PartK H f kvs L) (e : KpT H H') : PartK H' f kvs L := Paired.mapP h fun _ _ z => ⟨z.1, z.2.1.up e, z.2.2⟩
theorem PartK.keys {H : Hp} {f : Sx.St → Nat} {kvs : List Kvv} {L : List Sx.St} (h : PartK H f kvs L) : kvs.map (·.1) = L.map kp := by
  unfold PartK at h
  induction h with
  | nil => rfl
  | cons h t ih => rw [List.map_cons, List.map_cons, ih, h.1]
theorem PartK.len {H : Hp} {f : Sx.St → Nat} {kvs : List Kvv} {L : List Sx.St} (h : PartK H f kvs L) : kvs.length = L.length := Paired.length h
theorem PartK.at_ {H : Hp} {f : Sx.St → Nat} {kvs : List Kvv} {L : List Sx.St} (h : PartK H f kvs L) {s : Sx.St} (hs : s ∈ L) : ∃ i : V, (kp s, i, .int ((f s : Nat) : Int)) ∈ kvs := by
  obtain ⟨j, hj⟩ := List.mem_iff_getElem?.mp hs
  have hl := h.len
  have hjl := (List.getElem?_eq_some_iff.mp hj).1
  have he : kvs[j]? = some (kvs[j]'(by omega)) := List.getElem?_eq_getElem _
  obtain ⟨s', g1, g2⟩ := L2.paired_get h he
  rw [hj] at g1
  cases g1
  obtain ⟨h1, h2, h3⟩ := g2
  have hm : kvs[j]'(by omega) ∈ kvs := List.mem_of_getElem? he
  generalize kvs[j]'(by omega) = e at h1 h2 h3 hm
  obtain ⟨e1, e2, e3⟩ := e
  dsimp only at h1 h3
  subst h1 h3
  exact ⟨e2, hm⟩
theorem PartK.cong {H : Hp} {f g : Sx.St → Nat} {kvs : List Kvv} {L : List Sx.St} (h : PartK H f kvs L) (e : ∀ s ∈ L, f s = g s) : PartK H g kvs L := by
  unfold PartK at h ⊢
  induction h with
  | nil => exact .nil
  | cons h t ih =>
    refine .cons ⟨h.1, h.2.1, ?_⟩ (ih fun s hs => e s (List.mem_cons_of_mem _ hs))
    rw [h.2.2, e _ List.mem_cons_self]
theorem kp_take {L : List Sx.St} {i : Nat} {s : Sx.St} (nd : L.Nodup) (hs : L[i]? = some s) : kp s ∉ (L.take i).map kp := fun z => by
  have z2 := kp_mem.mp z
  obtain ⟨j, hj⟩ := List.mem_iff_getElem?.mp z2
  rw [List.getElem?_take] at hj
  split at hj
  · rename_i hji
    have := (List.getElem?_inj (List.getElem?_eq_some_iff.mp hj).1 nd).mp (hj.trans hs.symm)
    omega
  · cases hj
/-! how many parts: a dict's keys -/
theorem puts_keys : ∀ (more kvs : List Kvv), (putsN kvs more).map (·.1) = Bf.add (kvs.map (·.1)) (more.map fun x => some x.1)
  | [], kvs => rfl
  | x :: r, kvs => by
    show (putsN (putN kvs x.1 x.2.1 x.2.2) r).map (·.1) = Bf.add (if x.1 ∈ kvs.map (·.1) then kvs.map (·.1) else kvs.map (·.1) ++ [x.1]) (r.map fun x => some x.1)
    rw [puts_keys r]
    by_cases c : x.1 ∈ kvs.map (·.1)
    · rw [if_pos c, putN_old c, putN_keys_old]
    · rw [if_neg c, putN_new c, List.map_append]; rfl
theorem many_num (L : List Sx.St) (f : Sx.St → Nat) : (Bf.add ([] : List NestedKey) (L.map fun s => some (NestedKey.num ((f s : Nat) : Int)))).length = Mo.many L f := by
  have := Bf.add_map (f := fun n : Nat => NestedKey.num (n : Int)) (fun a b e => by injection e with e; omega) ((L.map f).map some) []
  rw [List.map_map, List.map_map] at this
  have e : Bf.add ([] : List NestedKey) (L.map fun s => some (NestedKey.num ((f s : Nat) : Int))) = (Bf.add [] ((L.map f).map some)).map fun n : Nat => NestedKey.num (n : Int) := this
  rw [e, List.length_map]; rfl
/-! numbers by any key -/
def numG {α : Type} (key : α → NestedKey) (n : Nat) : List α → List (NestedKey × V)
  | [] => []
  | k :: r => (key k, .int (n : Nat)) :: numG key (n + 1) r
section
variable {α : Type} [DecidableEq α] {key : α → NestedKey}
theorem numG_snoc (k : α) : ∀ (ks : List α) (n : Nat), numG key n (ks ++ [k]) = numG key n ks ++ [(key k, .int ((n + ks.length : Nat)))]
  | [], n => rfl
  | x :: r, n => by
    show _ :: numG key (n + 1) (r ++ [k]) = _
    rw [numG_snoc k r (n + 1), List.length_cons, show n + 1 + r.length = n + (r.length + 1) by omega]; rfl
theorem numG_keys : ∀ (ks : List α) (n : Nat), (numG key n ks).map (·.1) = ks.map key
  | [], n => rfl
  | x :: r, n => by
    show key x :: (numG key (n + 1) r).map (·.1) = _
    rw [numG_keys r (n + 1)]; rfl
theorem numG_mem {k : α} : ∀ {ks : List α} {n : Nat}, k ∈ ks → (key k, V.int ((n + Mo.pos ks k : Nat))) ∈ numG key n ks
  | x :: r, n, h => by
    rw [pos_cons]
    by_cases c : x = k
    · rw [if_pos c, c]
      exact List.mem_cons_self
    · have h' : k ∈ r := by
        rcases List.mem_cons.mp h with z | z
        · exact absurd z.symm c
        · exact z
      rw [if_neg c]
      rw [show n + (Mo.pos r k + 1) = n + 1 + Mo.pos r k by omega]
      exact List.mem_cons_of_mem _ (numG_mem h')
def NumK (key : α → NestedKey) (kvs : List Kvv) (ks : List α) : Prop := kvs.map (fun x => (x.1, x.2.2)) = numG key 0 ks
theorem NumK.keys {kvs : List Kvv} {ks : List α} (h : NumK key kvs ks) : kvs.map (·.1) = ks.map key := by
  have := congrArg (List.map (·.1)) h
  rw [List.map_map, numG_keys] at this
  exact this
theorem NumK.len {kvs : List Kvv} {ks : List α} (h : NumK key kvs ks) : kvs.length = ks.length := by
  have := congrArg List.length h.keys
  rwa [List.length_map, List.length_map] at this
theorem NumK.at_ {kvs : List Kvv} {ks : List α} (h : NumK key kvs ks) {k : α} (hk : k ∈ ks) : ∃ i, (key k, i, V.int ((Mo.pos ks k : Nat))) ∈ kvs := by
  have hm := numG_mem (key := key) (n := 0) hk
  rw [Nat.zero_add, ← h] at hm
  obtain ⟨x, hx, e⟩ := List.mem_map.mp hm
  injection e with e1 e2
  exact ⟨x.2.1, by rw [← e1, ← e2]; exact hx⟩
theorem NumK.new {kvs : List Kvv} {ks : List α} (h : NumK key kvs ks) {k : α} (v : V) : NumK key (kvs ++ [(key k, v, .int ((ks.length : Nat)))]) (ks ++ [k]) := by
  unfold NumK at h ⊢
  rw [List.map_append, h, numG_snoc, Nat.zero_add]; rfl
theorem nod_uniq {kvs : List Kvv} (nd : (kvs.map (·.1)).Nodup) {k : NestedKey} {i j v u : V} (h1 : (k, i, v) ∈ kvs) (h2 : (k, j, u) ∈ kvs) : v = u := by
  obtain ⟨a, ha⟩ := List.mem_iff_getElem?.mp h1
  obtain ⟨b, hb⟩ := List.mem_iff_getElem?.mp h2
  have g1 : (kvs.map (·.1))[a]? = some k := by rw [List.getElem?_map, ha]; rfl
  have g2 : (kvs.map (·.1))[b]? = some k := by rw [List.getElem?_map, hb]; rfl
  have e := (List.getElem?_inj (List.getElem?_eq_some_iff.mp g1).1 nd).mp (g1.trans g2.symm)
  rw [e, hb] at ha
  cases ha; rfl
/-- what stands there already is put there again -/
theorem NumK.old {kvs : List Kvv} {ks : List α} (h : NumK key kvs ks) (nd : (kvs.map (·.1)).Nodup) {k : α} (hk : k ∈ ks) : NumK key (kvs.map (fun x => if x.1 = key k then (x.1, x.2.1, .int ((Mo.pos ks k : Nat))) else x)) ks := by
  obtain ⟨i, hi⟩ := h.at_ hk
  unfold NumK at h ⊢
  rw [← h, List.map_map]
  refine List.map_congr_left fun x hx => ?_
  show (fun x : Kvv => (x.1, x.2.2)) (if x.1 = key k then (x.1, x.2.1, .int ((Mo.pos ks k : Nat))) else x) = _
  split
  · rename_i e
    obtain ⟨x1, x2, x3⟩ := x
    dsimp only at e ⊢
    subst e
    rw [nod_uniq nd hx hi]
  · rfl
end
/-! marks as keys -/
def rKey : Option Nat → Int
  | none => -1
  | some i => ((i : Nat) : Int)
def mkey (m : Mo.Mark) : NestedKey := .tup [.num ((m.1 : Nat) : Int), .tup (m.2.map fun o => .num (rKey o))]
theorem rKey_inj {a b : Option Nat} (h : rKey a = rKey b) : a = b := by
  cases a <;> cases b <;> simp only [rKey] at h
  · rfl
  · omega
  · omega
  · exact congrArg some (by omega)
theorem mkey_inj {a b : Mo.Mark} (h : mkey a = mkey b) : a = b := by
  unfold mkey at h
  injection h with h
  injection h with h1 h2
  injection h2 with h2 _
  injection h1 with h1
  injection h2 with h2
  refine Prod.ext (by omega) ?_
  refine List.map_inj_right (f := fun o => NestedKey.num (rKey o)) (fun x y e => ?_) |>.mp h2
  injection e with e
  exact rKey_inj e
theorem depth_nums : ∀ l : List (Option Nat), NestedKey.depthAll (l.map fun o => NestedKey.num (rKey o)) ≤ 1
  | [] => by show NestedKey.depthAll [] ≤ 1; simp only [NestedKey.depthAll]; omega
  | o :: r => by
    have := depth_nums r
    show NestedKey.depthAll (NestedKey.num (rKey o) :: r.map fun o => NestedKey.num (rKey o)) ≤ 1
    simp only [NestedKey.depthAll, NestedKey.depth] at this ⊢
    omega
theorem mkey_depth (m : Mo.Mark) : (mkey m).depth ≤ 8 := by
  have := depth_nums m.2
  unfold mkey
  simp only [NestedKey.depth, NestedKey.depthAll]
  omega
theorem keyvs_nums {H : Hp} : ∀ l : List (Option Nat), KeyVs H (l.map fun o => NestedKey.num (rKey o)) (l.map fun o => V.int (rKey o))
  | [] => .nil
  | o :: r => .cons (.int _) (keyvs_nums r)
theorem keyv_mark {H : Hp} {m : Mo.Mark} {t r : Addr} (h1 : H t = some (.tup [.int ((m.1 : Nat) : Int), .ref r])) (h2 : H r = some (.tup (m.2.map fun o => V.int (rKey o)))) : KeyV H (mkey m) (.ref t) :=
  .tup h1 (.cons (.int _) (.cons (.tup h2 (keyvs_nums m.2)) .nil))
end My

set_option linter.all false
namespace My
open PySem PySem.Spec PyProof.Rows L2
/-! ### _law_canon: the value of a state -/
abbrev sCanon : Stmt := topS 25
section
variable {P : Program} {w : World} {K : PySem.W.Frag} {mg : Str → Option Value} {base : Heap}
structure TgN (mg : Str → Option Value) : Prop where
  dict : mg "dict" = none
  len : mg "len" = none
  tuple : mg "tuple" = none
theorem scCa : FnScope ["base", "start", "table", "left", "state", "part", "many", "marks", "fresh", "other", "row", "mark", "order", "numbers", "rows"] ["base", "start", "table"] (defScope sCanon) := ⟨rfl, rfl, rfl, by decide +kernel, rfl, by decide +kernel, by decide +kernel⟩
/-- parts that keep the rows tell the states -/
def Tells (cells : Sx.St → List (Option Sx.St)) (L : List Sx.St) : Prop := ∀ f : Sx.St → Nat, (∀ s ∈ L, ∀ t ∈ L, f s = f t → Mo.rowP f (cells s) = Mo.rowP f (cells t)) → ∀ s ∈ L, ∀ t ∈ L, f s = f t → s = t
def spCanon (w : World) : Sp := fun vs H Q _ => ∃ (B : Int) (x : V) (k0 : Sx.St) (t : Addr) (kvs : List Kvv) (cells : Sx.St → List (Option Sx.St)) (L : List Sx.St), vs = [.int B, x, .ref t] ∧ IsPr H x k0 ∧ k0 ∈ L ∧ DR w H t kvs ∧ TabL H cells kvs L ∧ KpOk cells L ∧ Tells cells L ∧
  ∀ (n : Nat) (t r : Addr) (xs : List V) (H' : Hp), (Bf.run cells k0 n).1.length = n → Same H H' → H' t = some (.tup [.int B, .ref r]) → H' r = some (.tup xs) → Paired (IsRow H') xs (Bf.run cells k0 n).2 → Q (.ref t) H'
/-- a dict of parts that stands still, beside the table -/
structure PtAt (w : World) (H : Hp) (d : Addr) (f : Sx.St → Nat) (L : List Sx.St) (kp : List Kvv) : Prop where
  fz : ∃ od u, H d = some (.frz od u)
  df : DF w H d kp
  pk : PartK H f kp L
theorem PtAt.same {H H' : Hp} {d : Addr} {f : Sx.St → Nat} {L : List Sx.St} {kp : List Kvv} (h : PtAt w H d f L kp) (s : Same H H') : PtAt w H' d f L kp :=
  ⟨let ⟨od, u, e⟩ := h.fz; ⟨od, u, s _ _ e⟩, h.df.mono s, h.pk.up (KpT.of s)⟩
/-- the pairs (part, True) of all states -/
def CntL (H : Hp) (D : Addr) (f : Sx.St → Nat) (L : List Sx.St) (zs : List (Addr × Kvv)) : Prop := H D = some (.lst (zs.map fun z => V.ref z.1)) ∧ zs.length = L.length ∧ (∀ z ∈ zs, H z.1 = some (.tup [z.2.2.1, z.2.2.2]) ∧ KeyV H z.2.1 z.2.2.1 ∧ z.2.1.depth ≤ 8) ∧ zs.map (fun z => z.2.1) = L.map fun s => NestedKey.num ((f s : Nat) : Int)
theorem cnt_of {H : Hp} {D : Addr} {f : Sx.St → Nat} {L : List Sx.St} {us : List V} (hD : H D = some (.lst us)) (lus : us.length = L.length) (h : ∀ (i : Nat) (v : V), us[i]? = some v → ∃ (s : Sx.St) (t : Addr), L[i]? = some s ∧ v = .ref t ∧ H t = some (.tup [.int ((f s : Nat) : Int), .bl true])) : ∃ zs, CntL H D f L zs := by
  obtain ⟨zs, lz, hz⟩ := choose_n (α := Addr × Kvv) (Pr := fun i z => ∃ s, L[i]? = some s ∧ us[i]? = some (.ref z.1) ∧ H z.1 = some (.tup [.int ((f s : Nat) : Int), .bl true]) ∧ z.2 = (NestedKey.num ((f s : Nat) : Int), V.int ((f s : Nat) : Int), V.bl true)) L.length fun i hi => by
    obtain ⟨s, t, e1, e2, e3⟩ := h i _ (List.getElem?_eq_getElem (show i < us.length by omega))
    exact ⟨(t, NestedKey.num ((f s : Nat) : Int), V.int ((f s : Nat) : Int), V.bl true), s, e1, by rw [List.getElem?_eq_getElem (show i < us.length by omega), e2], e3, rfl⟩
  have eus : us = zs.map fun z => V.ref z.1 := list_by _ (by omega) fun i z h => (hz i z h).choose_spec.2.1
  refine ⟨zs, by rw [← eus]; exact hD, lz, fun z hzm => ?_, ?_⟩
  · obtain ⟨i, hi⟩ := List.mem_iff_getElem?.mp hzm
    obtain ⟨s, g1, g2, g3, g4⟩ := hz i z hi
    rw [g4]
    exact ⟨g3, .int _, by simp only [NestedKey.depth]; omega⟩
  · symm
    refine list_by _ (by rw [List.length_map, lz]) fun i z hi => ?_
    obtain ⟨s, g1, g2, g3, g4⟩ := hz i z hi
    rw [List.getElem?_map, g1, g4]; rfl
theorem cnt_len {H : Hp} {D : Addr} {f : Sx.St → Nat} {L : List Sx.St} {zs : List (Addr × Kvv)} (h : CntL H D f L zs) : (putsN [] (zs.map (·.2))).length = Mo.many L f := by
  have e := congrArg List.length (puts_keys (zs.map (·.2)) [])
  rw [List.length_map] at e
  rw [e]
  have e2 := congrArg (List.map some) h.2.2.2
  rw [List.map_map, List.map_map] at e2
  rw [List.map_map]
  have : Bf.add ([] : List NestedKey) (zs.map ((fun x : Kvv => some x.1) ∘ fun z => z.2)) = Bf.add [] (L.map fun s => some (NestedKey.num ((f s : Nat) : Int))) := congrArg (Bf.add []) e2
  exact (congrArg List.length this).trans (many_num L f)
theorem puts_nod : ∀ (more kvs : List Kvv), ((kvs ++ more).map (·.1)).Nodup → putsN kvs more = kvs ++ more
  | [], kvs, _ => (List.append_nil _).symm
  | x :: r, kvs, h => by
    have n : x.1 ∉ kvs.map (·.1) := fun z => by
      rw [List.map_append, List.nodup_append] at h
      exact h.2.2 x.1 z x.1 (List.mem_map.mpr ⟨x, List.mem_cons_self, rfl⟩) rfl
    show putsN (putN kvs x.1 x.2.1 x.2.2) r = _
    rw [putN_new n, puts_nod r (kvs ++ [(x.1, x.2.1, x.2.2)]) (by rw [List.append_assoc]; exact h), List.append_assoc]; rfl
set_option maxHeartbeats 1000000 in
theorem ok_canon {f fKp : Addr} {fd fdKp : FuncData} (F : Fun K "_law_canon" "_law_canon" sCanon f fd) (T : TgN mg)
    (FKp : Fun K "_law_kept" "_law_kept" sKept fKp fdKp) (GKp : FnOk P w K mg base CX0 1 fKp fdKp ["table"] (spKept w)) (bKp : Binds K fdKp ["table"] []) (gKp : mg "_law_kept" = some (.ref fKp)) :
    FnOk P w K mg base CX0 2 f fd ["base", "start", "table"] (spCanon w) := by
  refine F.ok scCa (fun vs H Q E h => ?_) (fun cdv A outer s0 H vs Q E hr h => ?_)
  · obtain ⟨B, x, k0, t, kvs, cells, L, rfl, _⟩ := h
    rfl
  · obtain ⟨B, x, k0, t, kvs, cells, L, rfl, hx, hk0, dr, tl, KO, TE, k⟩ := h
    have hr1 := hr
    have hu8 := Nat.lt_trans (Nat.add_lt_add_left (show 8 < 64 by decide) _) hr.units
    have hu9 := Nat.lt_trans (Nat.add_lt_add_left (show 9 < 64 by decide) _) hr.units
    have hu10 := Nat.lt_trans (Nat.add_lt_add_left (show 10 < 64 by decide) _) hr.units
    have sz := KO.sz
    refine ⟨_, (pss_cons (ps_set (i := 3) scCa.nd rfl (Or.inl rfl) (pe_call GKp hr1 (by rfl) gKp FKp.kp bKp .nil pass0 (pa_cons (pv 2) pa_nil)))
      (pss_cons (ps_if (pt_cmpR (op_notInR hu9) (pv 1) (pv 3) (by rfl)) (pss_one (ps_ret (pe_tup (pa_cons (pv 0) (pa_cons (pe_tup pa_nil) pa_nil))))) pss_nil)
      (pss_cons (ps_set (i := 5) scCa.nd rfl (Or.inr rfl) (pe_callTy (call_dictP' rfl hr.units) (by rfl) T.dict boot_dict (pa_cons (pe_lc (own := [("state", 4)]) (g := gName 4) (tt := tYes) rfl scCa.nd (pi_keysF (pe_frz (pv 3))) (blkOk_by (N := ["base", "start", "table", "left", "state", "part", "many", "marks", "fresh", "other", "row", "mark", "order", "numbers", "rows"]) (sc := defScope sCanon) (by decide +kernel)) (fun _ _ _ _ _ => (pg_name (i := 4) scCa.nd rfl (Or.inl rfl))) (fun _ _ _ _ _ => pts_nil) (fun _ _ _ _ _ => (pe_tup (pa_cons (pv 4) (pa_cons pe_int pa_nil))))) pa_nil)))
      (pss_cons (ps_set (i := 6) scCa.nd rfl (Or.inl rfl) pe_int)
      (C8.pss_cut (ps_while PassesOwn.never (pt_cmpR op_ne (pv 6) (pe_callB call_lenR (by rfl) T.len PySem.boot_len (pa_cons (pe_callTy (call_dictP' rfl hr.units) (by rfl) T.dict boot_dict (pa_cons (pe_lc (own := [("state", 4)]) (g := gName 4) (tt := tYes) rfl scCa.nd (show PI _ _ _ (iKeysF w (tFrz w (tVar 5))) from pi_keysF (pe_frz (pv 5))) (blkOk_by (N := ["base", "start", "table", "left", "state", "part", "many", "marks", "fresh", "other", "row", "mark", "order", "numbers", "rows"]) (sc := defScope sCanon) (by decide +kernel)) (fun _ _ _ _ _ => (pg_name (i := 4) scCa.nd rfl (Or.inl rfl))) (fun _ _ _ _ _ => pts_nil) (fun _ _ _ _ _ => (pe_tup (pa_cons (show PE _ _ (tDGetR w (tVar 5) (tVar 4)) from pe_dgetR hu10 (pv 5) (pv 4) (fun _ _ => rfl)) (pa_cons pe_bl pa_nil))))) pa_nil)) pa_nil)) (nomark _)) (pss_cons (ps_set (i := 6) scCa.nd rfl (Or.inl rfl) (pe_callB call_lenR (by rfl) T.len PySem.boot_len (pa_cons (pe_callTy (call_dictP' rfl hr.units) (by rfl) T.dict boot_dict (pa_cons (pe_lc (own := [("state", 4)]) (g := gName 4) (tt := tYes) rfl scCa.nd (show PI _ _ _ (iKeysF w (tVar 5)) from pi_keysF (pv 5)) (blkOk_by (N := ["base", "start", "table", "left", "state", "part", "many", "marks", "fresh", "other", "row", "mark", "order", "numbers", "rows"]) (sc := defScope sCanon) (by decide +kernel)) (fun _ _ _ _ _ => (pg_name (i := 4) scCa.nd rfl (Or.inl rfl))) (fun _ _ _ _ _ => pts_nil) (fun _ _ _ _ _ => (pe_tup (pa_cons (show PE _ _ (tDGetR w (tVar 5) (tVar 4)) from pe_dgetR hu10 (pv 5) (pv 4) (fun _ _ => rfl)) (pa_cons pe_bl pa_nil))))) pa_nil)) pa_nil)))
      (pss_cons (ps_set (i := 7) scCa.nd rfl (Or.inl rfl) pe_dnewN)
      (pss_cons (ps_set (i := 8) scCa.nd rfl (Or.inl rfl) pe_dnewN)
      (C8.pss_cut (ps_for PassesOwn.never rfl (pi_keysF (pv 3)) (pg_name (i := 4) scCa.nd rfl (Or.inl rfl)) (pss_cons (ps_set (i := 10) scCa.nd rfl (Or.inl rfl) (pe_callTy call_tuple_of (by rfl) T.tuple boot_tuple (pa_cons (pe_lc (own := [("other", 9)]) (g := gName 9) (tt := tYes) rfl scCa.nd (pi_list (show PE _ _ (tDGetR w (tVar 3) (tVar 4)) from pe_dgetR hu10 (pv 3) (pv 4) (fun _ _ => rfl))) (blkOk_by (N := ["base", "start", "table", "left", "state", "part", "many", "marks", "fresh", "other", "row", "mark", "order", "numbers", "rows"]) (sc := defScope sCanon) (by decide +kernel)) (fun _ _ _ _ _ => (pg_name (i := 9) scCa.nd rfl (Or.inl rfl))) (fun _ _ _ _ _ => pts_nil) (fun _ _ _ _ _ => (pe_ifExp (pt_cmpR op_isN (pv 9) pe_non (nomark _)) (pe_un un_neg pe_int) (show PE _ _ (tDGetR w (tVar 5) (tVar 9)) from pe_dgetR hu10 (pv 5) (pv 9) (fun _ _ => rfl))))) pa_nil)))
      (pss_cons (ps_set (i := 11) scCa.nd rfl (Or.inl rfl) (pe_tup (pa_cons (show PE _ _ (tDGetR w (tVar 5) (tVar 4)) from pe_dgetR hu10 (pv 5) (pv 4) (fun _ _ => rfl)) (pa_cons (pv 10) pa_nil))))
      (C8.pss_cut (ps_asg (pe_bmR PySem.F.plainAttrs_dict PySem.F.slot_dict_get PySem.F.type_dict_get (mt_getR hu10) (pv 7) (pa_cons (pv 11) (pa_cons (pe_callB call_lenR (by rfl) T.len PySem.boot_len (pa_cons (pv 7) pa_nil)) pa_nil))) (pg_sub (pv 7) (pv 11) (set_any hu9)))
      (pss_one (ps_asg (show PE _ _ (tDGetR w (tVar 7) (tVar 11)) from pe_dgetR hu10 (pv 7) (pv 11) (fun _ _ => rfl)) (pg_sub (pv 8) (pv 4) (set_any hu9))))))))
      (pss_one (ps_set (i := 5) scCa.nd rfl (Or.inr rfl) (pv 8))))))))
      (pss_cons (ps_set (i := 12) scCa.nd rfl (Or.inl rfl) (pe_lst (pa_cons (pv 1) pa_nil)))
      (pss_cons (ps_set (i := 13) scCa.nd rfl (Or.inl rfl) (pe_disp1 hu8 (show PE _ _ (tDGetR w (tVar 5) (tVar 1)) from pe_dgetR hu10 (pv 5) (pv 1) (fun _ _ => rfl)) pe_int))
      (pss_cons (ps_set (i := 14) scCa.nd rfl (Or.inl rfl) (pe_lst pa_nil))
      (pss_cons (ps_while PassesOwn.never (pt_cmpR op_lt (pe_callB call_len_seq (by rfl) T.len PySem.boot_len (pa_cons (pv 14) pa_nil)) (pe_callB call_len_seq (by rfl) T.len PySem.boot_len (pa_cons (pv 12) pa_nil)) (nomark _)) (pss_cons (ps_set (i := 10) scCa.nd rfl (Or.inl rfl) (pe_lst pa_nil))
      (pss_cons (ps_for PassesOwn.never rfl (pi_list (pe_dgetR hu10 (pv 3) (pe_ix ix_list (pv 12) (pe_callB call_len_seq (by rfl) T.len PySem.boot_len (pa_cons (pv 14) pa_nil)) (fun _ _ => rfl)) (fun _ _ => rfl))) (pg_name (i := 9) scCa.nd rfl (Or.inl rfl)) (C8.pss_cut (ps_if (PW.pt (pw_and (pt_cmpR op_notN (pv 9) pe_non (nomark _)) (pw_and1 (pt_cmpR (op_notInR hu9) (show PE _ _ (tDGetR w (tVar 5) (tVar 9)) from pe_dgetR hu10 (pv 5) (pv 9) (fun _ _ => rfl)) (pv 13) (by rfl))))) (pss_cons (ps_asg (pe_callB call_lenR (by rfl) T.len PySem.boot_len (pa_cons (pv 13) pa_nil)) (pg_sub (pv 13) (show PE _ _ (tDGetR w (tVar 5) (tVar 9)) from pe_dgetR hu10 (pv 5) (pv 9) (fun _ _ => rfl)) (set_any hu9)))
      (pss_one (ps_expr (pe_bm PySem.F.plainAttrs_list PySem.F.slot_list_append PySem.F.type_list_append mt_append (pv 12) (pa_cons (pv 9) pa_nil))))) pss_nil)
      (pss_one (ps_expr (pe_bm PySem.F.plainAttrs_list PySem.F.slot_list_append PySem.F.type_list_append mt_append (pv 10) (pa_cons (pe_ifExp (pt_cmpR op_isN (pv 9) pe_non (nomark _)) pe_non (pe_dgetR hu10 (pv 13) (show PE _ _ (tDGetR w (tVar 5) (tVar 9)) from pe_dgetR hu10 (pv 5) (pv 9) (fun _ _ => rfl)) (fun _ _ => rfl))) pa_nil))))))
      (pss_one (ps_expr (pe_bm PySem.F.plainAttrs_list PySem.F.slot_list_append PySem.F.type_list_append mt_append (pv 14) (pa_cons (pe_callTy call_tuple_of (by rfl) T.tuple boot_tuple (pa_cons (pv 10) pa_nil)) pa_nil)))))))
      (pss_one (ps_ret (pe_tup (pa_cons (pv 0) (pa_cons (pe_callTy call_tuple_of (by rfl) T.tuple boot_tuple (pa_cons (pv 14) pa_nil)) pa_nil)))))))))))))), ?_⟩
    refine ⟨_, rfl, t, kvs, cells, L, rfl, dr, tl, KO, fun d kv H1 nd s1 D1 tl1 => ?_⟩
    refine ⟨_, rfl, _, rfl, d, kv, kp k0, rfl, .inl D1, (keyv_pr hx).mono s1, kp_depth _, _, rfl, ?_⟩
    rw [Bool.true_xor]
    refine ifF (by rw [tl1.keys, decide_eq_true (kp_mem.mpr hk0)]; rfl) ?_
    obtain ⟨es, ep, g1, g2⟩ := D1
    have lkv := tl1.len
    refine ⟨_, rfl, d, .inr ⟨kv, es, ep, g1, g2, fun od df => ⟨d, kv, rfl, df, fun od2 u2 e2 => ?_⟩⟩⟩
    have bf : But d H1 (upd H1 d (.frz od (rawO d es ep))) := But.upd
    obtain ⟨Hf, hHf⟩ : ∃ Hf, Hf = upd H1 d (.frz od (rawO d es ep)) := ⟨_, rfl⟩
    rw [← hHf] at bf df e2
    refine goHeap hHf ?_
    clear hHf
    have tlf : TabL Hf cells kv L := tl1.but (fun xs z => by rw [g1] at z; cases z) (fun xs z => by rw [g1] at z; cases z) bf
    have sHf : Same H Hf := fun c o e => bf _ _ (fun z => by rw [z, nd] at e; cases e) (s1 _ _ e)
    refine fun D nD => lc_pr walk_keysF (fun i v Hx => ∃ (s : Sx.St) (tt : Addr) (xv : V), L[i]? = some s ∧ v = .ref tt ∧ Hx tt = some (.tup [xv, .int 0]) ∧ IsPr Hx xv s) (fun i v Ha Hb kq ⟨s, tt, xv, a1, a2, a3, a4⟩ => ⟨s, tt, xv, a1, a2, kq _ _ a3, a4.up kq⟩) nD (by rw [sizeLine_eq]; omega) (fun Hx sx => ⟨⟨u2, sx _ _ e2⟩, df.mono sx⟩) (fun i y Ha Hb hi sb yy Q2 R2 q2 => ?_) fun H7 us s7 hD lus hus => ?_
    · obtain ⟨rfl, kk, vv, hk⟩ := yy
      obtain ⟨s, hs, ek, pv, _⟩ := L2.paired_get tlf hk
      refine ⟨rfl, tyes ?_⟩
      exact ⟨_, rfl, (by show 2 ≤ sizeLine; decide), fun tt ntt => q2 _ _ (same_upd ntt) ⟨s, tt, y, hs, rfl, upd_same, pv.up (KpT.of (sb.trans (same_upd ntt)))⟩⟩
    · obtain ⟨zs, lz, hz⟩ := choose_n (α := Addr × Kvv) (Pr := fun i z => ∃ s, L[i]? = some s ∧ us[i]? = some (.ref z.1) ∧ H7 z.1 = some (.tup [z.2.2.1, .int 0]) ∧ IsPr H7 z.2.2.1 s ∧ z.2.1 = kp s ∧ z.2.2.2 = .int 0) L.length fun i hi => by
        obtain ⟨s, tt, xv, e1, e2, e3, e4⟩ := hus i _ (List.getElem?_eq_getElem (show i < us.length by omega))
        exact ⟨(tt, kp s, xv, .int 0), s, e1, by rw [List.getElem?_eq_getElem (show i < us.length by omega), e2], e3, e4, rfl, rfl⟩
      have eus : us = zs.map fun z => V.ref z.1 := list_by _ (by omega) fun i z h => (hz i z h).choose_spec.2.1
      have ek : zs.map (fun z => z.2.1) = L.map kp := by
        symm
        refine list_by _ (by rw [List.length_map, lz]) fun i z hi => ?_
        obtain ⟨s, g1, _, _, _, g5, _⟩ := hz i z hi
        rw [List.getElem?_map, g1, g5]; rfl
      have ndk : (L.map kp).Nodup := List.pairwise_map.mpr (List.Pairwise.imp (fun h z => h (kp_inj z)) KO.nd)
      rw [eus] at hD
      refine ⟨D, zs, rfl, SqL.of hD, by omega, fun z hzm => ?_, fun p0 H8 np0 f8 D8 => ?_⟩
      · obtain ⟨i, hi⟩ := List.mem_iff_getElem?.mp hzm
        obtain ⟨s, g1, _, g3, g4, g5, g6⟩ := hz i z hi
        rw [g5, g6]
        exact ⟨g3, keyv_pr g4, kp_depth s⟩
      rw [puts_nod (zs.map (·.2)) [] (by rw [List.nil_append, List.map_map]; exact ek ▸ ndk), List.nil_append] at D8
      have s8 : Same H7 H8 := fun c o e => by rw [f8 c (fun z => by rw [z, np0] at e; cases e)]; exact e
      have PK0 : PartK H8 (fun _ => 0) (zs.map (·.2)) L := by
        have lzs : (zs.map (·.2)).length = L.length := by rw [List.length_map, lz]
        have key : ∀ (a : List Kvv) (b : List Sx.St), a.length = b.length → (∀ (i : Nat) (e : Kvv) (s : Sx.St), a[i]? = some e → b[i]? = some s → PartE H8 (fun _ => 0) e s) → Paired (PartE H8 fun _ => 0) a b := by
          intro a
          induction a with
          | nil => intro b l _; cases b with | nil => exact .nil | cons _ _ => cases l
          | cons e r ih =>
            intro b l h
            cases b with
            | nil => cases l
            | cons s r2 => exact .cons (h 0 e s rfl rfl) (ih r2 (by simpa using l) fun i e s a b => h (i + 1) e s a b)
        refine key _ _ lzs fun i e s he hs => ?_
        rw [List.getElem?_map] at he
        cases ez : zs[i]? with
        | none => rw [ez] at he; cases he
        | some z =>
          rw [ez] at he
          cases he
          obtain ⟨s', g1, _, _, g4, g5, g6⟩ := hz i z ez
          rw [hs] at g1
          cases g1
          exact ⟨g5, g4.up (KpT.of s8), g6⟩
      have sf8 : Same Hf H8 := s7.trans s8
      have nfp : Hf p0 = none := by
        cases e : Hf p0 with
        | none => rfl
        | some o => rw [s7 _ _ e] at np0; cases np0
      generalize zs.map (·.2) = kp0 at D8 PK0
      clear hz eus ek hus hD lus
      refine ⟨fun σ H2 => ∃ (p : Addr) (pf : Sx.St → Nat) (kpp : List Kvv) (m : Int) (y4 y7 y8 y9 y10 y11 : Option V), σ = [some (.int B), some x, some (.ref t), some (.ref d), y4, some (.ref p), some (.int m), y7, y8, y9, y10, y11, none, none, none] ∧ Same Hf H2 ∧ DF w H2 p kpp ∧ PartK H2 pf kpp L ∧ ∀ s ∈ L, ∀ t ∈ L, pf s = pf t → s = t, ?_, ?_⟩
      · refine ⟨fun μ σ H2 => ∃ (p : Addr) (pf : Sx.St → Nat) (kpp : List Kvv) (m : Nat) (y4 y7 y8 y9 y10 y11 : Option V), σ = [some (.int B), some x, some (.ref t), some (.ref d), y4, some (.ref p), some (.int (m : Nat)), y7, y8, y9, y10, y11, none, none, none] ∧ Same Hf H2 ∧ Hf p = none ∧ DN w H2 p kpp ∧ PartK H2 pf kpp L ∧ μ = L.length + 1 - m ∧ (m = 0 ∨ ∃ g, m = Mo.many L g ∧ pf = Mo.fin1 cells L g), ⟨_, p0, fun _ => 0, kp0, 0, none, none, none, none, none, none, rfl, sf8, nfp, D8, PK0, rfl, .inl rfl⟩, ?_⟩
        rintro μ σ H2 ⟨p, pf, kpp, m, y4, y7, y8, y9, y10, y11, rfl, s2, np, D2, PK2, rfl, hm⟩
        obtain ⟨es2, ep2, g3, g4⟩ := D2
        refine ⟨_, rfl, _, rfl, p, .inr ⟨kpp, es2, ep2, g3, g4, fun odp dfp => ⟨p, kpp, rfl, dfp, fun od3 u3 e3 => ?_⟩⟩⟩
        have bp : But p H2 (upd H2 p (.frz odp (rawO p es2 ep2))) := But.upd
        obtain ⟨H3, hH3⟩ : ∃ H3, H3 = upd H2 p (.frz odp (rawO p es2 ep2)) := ⟨_, rfl⟩
        rw [← hH3] at bp dfp e3
        refine goHeap hH3 ?_
        clear hH3
        have PK := PK2.up (but_tup (fun xs z => by rw [g3] at z; cases z) bp)
        have s3 : Same Hf H3 := fun c o e => bp _ _ (fun z => by rw [z, np] at e; cases e) (s2 _ _ e)
        have lkp := PK.len
        refine fun D nD => lc_pr walk_keysF (fun i v Hx => ∃ (s : Sx.St) (tt : Addr), L[i]? = some s ∧ v = .ref tt ∧ Hx tt = some (.tup [.int ((pf s : Nat) : Int), .bl true])) (fun i v Ha Hb kq ⟨s, tt, a1, a2, a3⟩ => ⟨s, tt, a1, a2, kq _ _ a3⟩) nD (by rw [sizeLine_eq]; omega) (fun Hx sx => ⟨⟨u3, sx _ _ e3⟩, dfp.mono sx⟩) (fun i y Ha Hb hi sb yy Q2 R2 q2 => ?_) fun H7 us s7 hD lus hus => ?_
        · obtain ⟨rfl, kk, vv, hk⟩ := yy
          obtain ⟨s, hs, ek, pv, ev⟩ := L2.paired_get PK hk
          dsimp only at ek pv ev
          subst ek ev
          refine ⟨rfl, tyes ?_⟩
          exact ⟨_, rfl, _, rfl, p, kpp, kp s, y, _, rfl, .inr (dfp.mono sb), keyv_pr (pv.up (KpT.of sb)), kp_depth s, List.mem_of_getElem? hk, (by show 2 ≤ sizeLine; decide), fun tt ntt => q2 _ _ (same_upd ntt) ⟨s, tt, hs, rfl, upd_same⟩⟩
        · obtain ⟨zs2, cz⟩ := cnt_of hD (by rw [lus, lkp]) hus
          refine ⟨D, zs2, rfl, SqL.of cz.1, by have := cz.2.1; omega, cz.2.2.1, fun q H8 nq f8 D8 => ?_⟩
          have s8 : Same H7 H8 := fun c o e => by rw [f8 c (fun z => by rw [z, nq] at e; cases e)]; exact e
          refine ⟨q, _, rfl, .inl D8, ?_⟩
          rw [cnt_len cz]
          have s38 : Same H3 H8 := s7.trans s8
          clear hus hD cz
          have mle : m ≤ Mo.many L pf := by
            rcases hm with z | ⟨g, z1, z2⟩
            · omega
            · rw [z1, z2]; exact Mo.many_le
          have mlt := Mo.many_lt L pf
          refine ⟨rfl, _, rfl, ?_⟩
          by_cases c : m = Mo.many L pf
          · refine ifF (by rw [c]; simp) ?_
            refine ⟨p, pf, kpp, _, _, _, _, _, _, _, rfl, s3.trans s38, dfp.mono s38, PK.up (KpT.of s38), TE pf ?_⟩
            rcases hm with z | ⟨g, z1, z2⟩
            · have := Mo.many_pos KO.ne pf
              omega
            · rw [z2]
              exact Mo.fin1_stop KO.cl (by rw [← z1, c, z2])
          · refine ifT (by simp; omega) ⟨_, fun σ' H' h => h, ?_⟩
            have e4 := s38 _ _ e3
            have dfp := dfp.mono s38
            have PK := PK.up (KpT.of s38)
            refine ⟨_, rfl, p, kpp, rfl, dfp, fun od4 u4 e4 => ?_⟩
            refine fun D nD => lc_pr walk_keysF (fun i v Hx => ∃ (s : Sx.St) (tt : Addr), L[i]? = some s ∧ v = .ref tt ∧ Hx tt = some (.tup [.int ((pf s : Nat) : Int), .bl true])) (fun i v Ha Hb kq ⟨s, tt, a1, a2, a3⟩ => ⟨s, tt, a1, a2, kq _ _ a3⟩) nD (by rw [sizeLine_eq]; omega) (fun Hx sx => ⟨⟨u4, sx _ _ e4⟩, dfp.mono sx⟩) (fun i y Ha Hb hi sb yy Q2 R2 q2 => ?_) fun H7 us s7 hD lus hus => ?_
            · obtain ⟨rfl, kk, vv, hk⟩ := yy
              obtain ⟨s, hs, ek, pv, ev⟩ := L2.paired_get PK hk
              dsimp only at ek pv ev
              subst ek ev
              refine ⟨rfl, tyes ?_⟩
              exact ⟨_, rfl, _, rfl, p, kpp, kp s, y, _, rfl, .inr (dfp.mono sb), keyv_pr (pv.up (KpT.of sb)), kp_depth s, List.mem_of_getElem? hk, (by show 2 ≤ sizeLine; decide), fun tt ntt => q2 _ _ (same_upd ntt) ⟨s, tt, hs, rfl, upd_same⟩⟩
            · obtain ⟨zs2, cz⟩ := cnt_of hD (by rw [lus, lkp]) hus
              refine ⟨D, zs2, rfl, SqL.of cz.1, by have := cz.2.1; omega, cz.2.2.1, fun q2 H9 nq9 f9 D9 => ?_⟩
              have s9 : Same H7 H9 := fun c o e => by rw [f9 c (fun z => by rw [z, nq9] at e; cases e)]; exact e
              refine ⟨q2, _, rfl, .inl D9, ?_⟩
              rw [cnt_len cz]
              have s89 : Same H8 H9 := s7.trans s9
              clear hus hD cz D9
              have sf9 : Same Hf H9 := (s3.trans s38).trans s89
              have tl9 := tlf.same sf9
              have df9 := df.mono sf9
              have ef9 := sf9 _ _ e2
              have dfp9 := dfp.mono s89
              have PK9 := PK.up (KpT.of s89)
              refine fun M nM => ?_
              have sM := same_upd (o := rawO M #[] 0) nM
              refine fun R nR => ?_
              have sR := same_upd (o := rawO R #[] 0) nR
              have nMR : M ≠ R := fun z => by rw [← z, upd_same] at nR; cases nR
              have hM10 : (upd (upd H9 M (rawO M #[] 0)) R (rawO R #[] 0)) M = some (rawO M #[] 0) := by rw [upd_ne nMR]; exact upd_same
              have hR10 : (upd (upd H9 M (rawO M #[] 0)) R (rawO R #[] 0)) R = some (rawO R #[] 0) := upd_same
              have s910 := sM.trans sR
              have nR9 : H9 R = none := by
                cases e : H9 R with
                | none => rfl
                | some o => rw [sM _ _ e] at nR; cases nR
              generalize upd (upd H9 M (rawO M #[] 0)) R (rawO R #[] 0) = H10 at hM10 hR10 s910 ⊢
              refine ⟨fun σ' H11 => ∃ (kr : List Kvv) (y4 y9 y10 y11 : Option V), σ' = [some (.int B), some x, some (.ref t), some (.ref d), y4, some (.ref p), some (.int ((Mo.many L pf : Nat) : Int)), some (.ref M), some (.ref R), y9, y10, y11, none, none, none] ∧ Same H9 H11 ∧ DN w H11 R kr ∧ PartK H11 (Mo.fin1 cells L pf) kr L, ?_, ?_⟩
              · refine ⟨_, rfl, d, kv, rfl, df9.mono s910, fun od5 u5 e5 => ?_⟩
                have tl10 := tl9.same s910
                have dfp10 := dfp9.mono s910
                have PK10 := PK9.up (KpT.of s910)
                have ep10 := s910 _ _ (s89 _ _ e4)
                have df10 := df9.mono s910
                have ndM : d ≠ M := fun z => by rw [z, hM10] at e5; cases e5
                have ndR : d ≠ R := fun z => by rw [z, hR10] at e5; cases e5
                have npM : p ≠ M := fun z => by rw [z, hM10] at ep10; cases ep10
                have npR : p ≠ R := fun z => by rw [z, hR10] at ep10; cases ep10
                refine for_it walk_keysF (fun i σ Hi => ∃ (y4 y9 y10 y11 : Option V) (km kr : List Kvv), σ = [some (.int B), some x, some (.ref t), some (.ref d), y4, some (.ref p), some (.int ((Mo.many L pf : Nat) : Int)), some (.ref M), some (.ref R), y9, y10, y11, none, none, none] ∧ (∀ c o, c ≠ M → c ≠ R → H10 c = some o → Hi c = some o) ∧ DN w Hi M km ∧ NumK mkey km (Mo.dist ((L.take i).map (Mo.mark cells pf))) ∧ DN w Hi R kr ∧ PartK Hi (Mo.fin1 cells L pf) kr (L.take i)) ?_ ?_ ?_ ?_
                · exact ⟨_, _, _, _, [], [], rfl, fun c o _ _ e => e, ⟨#[], 0, hM10, .nil, List.nodup_nil, Nat.zero_le _⟩, rfl, ⟨#[], 0, hR10, .nil, List.nodup_nil, Nat.zero_le _⟩, .nil⟩
                · rintro i σ Hi _ ⟨y4, y9, y10, y11, km, kr, rfl, bi, _⟩
                  have ti : KpT H10 Hi := fun c ys e => bi c _ (fun z => by rw [z, hM10] at e; cases e) (fun z => by rw [z, hR10] at e; cases e) e
                  refine ⟨⟨u5, bi _ _ ndM ndR e5⟩, ?_⟩
                  obtain ⟨od, u, es, ep, h1, h2, h3, h4, h5, h6⟩ := df10
                  exact ⟨od, u, es, ep, bi _ _ ndM ndR h1, h2, h3, h4, h5.up ti, h6⟩
                · rintro i v σ Ho Hi hi ⟨y4, y9, y10, y11, km, kr, rfl, bi, dnM, nuM, dnR, pkR⟩ ⟨rfl, kk, val, hk⟩
                  have ti : KpT H10 Hi := fun c ys e => bi c _ (fun z => by rw [z, hM10] at e; cases e) (fun z => by rw [z, hR10] at e; cases e) e
                  have dfi : DF w Hi d kv := by
                    obtain ⟨od, u, es, ep, h1, h2, h3, h4, h5, h6⟩ := df10
                    exact ⟨od, u, es, ep, bi _ _ ndM ndR h1, h2, h3, h4, h5.up ti, h6⟩
                  have dfpi : DF w Hi p kpp := by
                    obtain ⟨od, u, es, ep, h1, h2, h3, h4, h5, h6⟩ := dfp10
                    exact ⟨od, u, es, ep, bi _ _ npM npR h1, h2, h3, h4, h5.up ti, h6⟩
                  obtain ⟨s, hs, ek, pv, l, xs, el, hl, px⟩ := L2.paired_get tl10 hk
                  dsimp only at ek pv el
                  subst ek el
                  have hli := bi _ _ (fun z => by rw [z, hM10] at hl; cases hl) (fun z => by rw [z, hR10] at hl; cases hl) hl
                  have lxs : xs.length = (cells s).length := Paired.length px
                  have lns := KO.ln s
                  have sL := List.mem_of_getElem? hs
                  obtain ⟨is_, ms_⟩ := PK10.at_ sL
                  have pvi := pv.up ti
                  refine ⟨_, rfl, _, rfl, d, kv, kp s, v, .ref l, rfl, .inr dfi, keyv_pr pvi, kp_depth s, List.mem_of_getElem? hk, l, rfl, ⟨_, SqL.of hli⟩, fun D nD => lc_pr (walk_list (K := K) (a := l) (xs := xs)) (fun j u Hx => ∃ o, (cells s)[j]? = some o ∧ u = .int (rKey (o.map pf))) (fun j u Ha Hb _ h => h) nD (by rw [sizeLine_eq]; omega) (fun Hx sx => SqL.of (sx _ _ hli)) (fun j y Ha Hb hj sb yy Q2 R2 q2 => ?_) fun H11 us s11 hD lus hus => ?_⟩
                  · obtain ⟨rfl, hv⟩ := yy
                    obtain ⟨o, ho, io⟩ := L2.paired_get px hv
                    refine ⟨rfl, tyes ?_⟩
                    refine ⟨_, rfl, rfl, _, rfl, ?_⟩
                    cases o with
                    | none =>
                      cases (show y = V.non from io)
                      refine ifT (by simp) ?_
                      exact ⟨1, rfl, q2 _ _ (Same.refl _) ⟨none, ho, rfl⟩⟩
                    | some u =>
                      obtain ⟨iu, mu⟩ := PK10.at_ (KO.cl s sL u (List.mem_of_getElem? ho))
                      have iv : IsPr Hb y u := IsPr.up (fun c ys e => sb _ _ (ti _ _ e)) io
                      have yn : y ≠ V.non := fun z => by
                        obtain ⟨tt, e, _⟩ := iv
                        rw [z] at e; cases e
                      refine ifF (decide_eq_false yn) ?_
                      exact ⟨_, rfl, _, rfl, p, kpp, kp u, iu, _, rfl, .inr (dfpi.mono sb), keyv_pr iv, kp_depth u, mu, q2 _ _ (Same.refl _) ⟨some u, ho, rfl⟩⟩
                  · have eus : us = (Mo.rowP pf (cells s)).map fun o => V.int (rKey o) := by
                      unfold Mo.rowP
                      rw [List.map_map]
                      refine list_by _ (by rw [lus, lxs]) fun j o ho => ?_
                      have hj : j < us.length := by rw [lus, lxs]; exact (List.getElem?_eq_some_iff.mp ho).1
                      obtain ⟨o', ho', e⟩ := hus j _ (List.getElem?_eq_getElem hj)
                      rw [ho] at ho'
                      cases ho'
                      rw [List.getElem?_eq_getElem hj, e]; rfl
                    subst eus
                    refine ⟨D, _, rfl, .inl ⟨SqL.of hD, fun r nr => ?_⟩⟩
                    have s12 := same_upd (o := .tup ((Mo.rowP pf (cells s)).map fun o => V.int (rKey o))) nr
                    have hr12 : (upd H11 r (.tup ((Mo.rowP pf (cells s)).map fun o => V.int (rKey o)))) r = some (.tup ((Mo.rowP pf (cells s)).map fun o => V.int (rKey o))) := upd_same
                    generalize upd H11 r (.tup ((Mo.rowP pf (cells s)).map fun o => V.int (rKey o))) = H12 at s12 hr12 ⊢
                    have s_12 : Same Hi H12 := s11.trans s12
                    refine ⟨_, rfl, _, rfl, p, kpp, kp s, is_, _, rfl, .inr (dfpi.mono s_12), keyv_pr (pvi.up (KpT.of s_12)), kp_depth s, ms_, _, rfl, (by show 2 ≤ sizeLine; decide), fun tm ntm => ?_⟩
                    have s13 := same_upd (o := .tup [.int ((pf s : Nat) : Int), .ref r]) ntm
                    have ht13 : (upd H12 tm (.tup [.int ((pf s : Nat) : Int), .ref r])) tm = some (.tup [.int ((pf s : Nat) : Int), .ref r]) := upd_same
                    have hr13 := s13 _ _ hr12
                    generalize upd H12 tm (.tup [.int ((pf s : Nat) : Int), .ref r]) = H13 at s13 ht13 hr13 ⊢
                    have s_13 : Same Hi H13 := s_12.trans s13
                    have dnM13 := dn_same dnM s_13
                    have dnR13 := dn_same dnR s_13
                    have pkR13 := pkR.up (KpT.of s_13)
                    have tk1 : L.take (i + 1) = L.take i ++ [s] := by rw [List.take_add_one, hs]; rfl
                    have nMR2 : M ≠ R := nMR
                    refine ⟨fun σ' H' => ∃ km', σ' = [some (.int B), some x, some (.ref t), some (.ref d), some v, some (.ref p), some (.int ((Mo.many L pf : Nat) : Int)), some (.ref M), some (.ref R), y9, some (.ref r), some (.ref tm), none, none, none] ∧ But M H13 H' ∧ DN w H' M km' ∧ NumK mkey km' (Mo.dist ((L.take (i + 1)).map (Mo.mark cells pf))), ?_, ?_⟩
                    · have kmv : KeyV H13 (mkey (Mo.mark cells pf s)) (.ref tm) := keyv_mark ht13 hr13
                      have e1 := Mo.dist_snoc (β := Mo.Mark) ((L.take i).map (Mo.mark cells pf)) (Mo.mark cells pf s)
                      have e0 : (L.take (i + 1)).map (Mo.mark cells pf) = (L.take i).map (Mo.mark cells pf) ++ [Mo.mark cells pf s] := by rw [tk1, List.map_append]; rfl
                      have lnu := nuM.len
                      have lds := Mo.dist_len ((L.take i).map (Mo.mark cells pf))
                      rw [List.length_map, List.length_take] at lds
                      have ndks := Mo.dist_nd ((L.take i).map (Mo.mark cells pf))
                      have ndkm : (km.map (·.1)).Nodup := by
                        rw [nuM.keys]
                        exact List.pairwise_map.mpr (List.Pairwise.imp (fun h z => h (mkey_inj z)) ndks)
                      have mem_iff : mkey (Mo.mark cells pf s) ∈ km.map (·.1) ↔ Mo.mark cells pf s ∈ Mo.dist ((L.take i).map (Mo.mark cells pf)) := by
                        rw [nuM.keys]
                        exact ⟨fun h => by
                          obtain ⟨z, hz, e⟩ := List.mem_map.mp h
                          rw [← mkey_inj e]; exact hz, fun h => List.mem_map.mpr ⟨_, h, rfl⟩⟩
                      refine ⟨_, rfl, ⟨M, km, rfl, .inl dnM13⟩, _, rfl, _, rfl, M, km, rfl, .inl dnM13, M, km, mkey (Mo.mark cells pf s), .ref tm, _, rfl, rfl, .inl dnM13, kmv, mkey_depth _, fun iv u hm => ?_, fun hn => ?_⟩
                      · have hin : mkey (Mo.mark cells pf s) ∈ km.map (·.1) := List.mem_map.mpr ⟨_, hm, rfl⟩
                        have hks := mem_iff.mp hin
                        obtain ⟨iv2, hm2⟩ := nuM.at_ hks
                        have eu := nod_uniq ndkm hm hm2
                        subst eu
                        rw [e0, e1.trans (if_pos hks)]
                        refine ⟨_, rfl, _, rfl, M, mkey (Mo.mark cells pf s), rfl, kmv, mkey_depth _, .inr ⟨km, dnM13, by rw [sizeLine_eq]; omega, fun H14 f14 D14 => ?_⟩⟩
                        rw [putN_old hin] at D14
                        exact ⟨_, rfl, fun c o h e => by rw [f14 c h]; exact e, D14, nuM.old ndkm hks⟩
                      · have hks := fun z => hn (mem_iff.mpr z)
                        rw [e0, e1.trans (if_neg hks)]
                        refine ⟨_, rfl, _, rfl, M, mkey (Mo.mark cells pf s), rfl, kmv, mkey_depth _, .inr ⟨km, dnM13, by rw [sizeLine_eq]; omega, fun H14 f14 D14 => ?_⟩⟩
                        rw [putN_new hn] at D14
                        refine ⟨_, rfl, fun c o h e => by rw [f14 c h]; exact e, D14, ?_⟩
                        rw [lnu]
                        exact nuM.new _
                    · rintro σ' H14 ⟨km', rfl, b14, dn14, nu14⟩
                      have n13 : ∃ es ep, H13 M = some (rawO M es ep) := let ⟨es, ep, e, _⟩ := dnM13; ⟨es, ep, e⟩
                      obtain ⟨es13, ep13, n13⟩ := n13
                      have t14 : KpT H13 H14 := but_tup (fun xs z => by rw [n13] at z; cases z) b14
                      have mk1 : Mo.mark cells pf s ∈ (L.take (i + 1)).map (Mo.mark cells pf) := by
                        rw [tk1, List.map_append]
                        exact List.mem_append_right _ (by simp)
                      obtain ⟨iv, mv⟩ := nu14.at_ (Mo.dist_mem.mpr mk1)
                      have dnR14 : DN w H14 R kr := by
                        obtain ⟨es, ep, e, r⟩ := dnR13
                        exact ⟨es, ep, b14 _ _ nMR2.symm e, r.up t14⟩
                      have pv14 : IsPr H14 v s := pvi.up fun c ys e => t14 _ _ (s_13 _ _ e)
                      have pkR14 := pkR13.up t14
                      have lkR := pkR14.len
                      rw [List.length_take] at lkR
                      refine ⟨_, rfl, _, rfl, M, km', mkey (Mo.mark cells pf s), iv, _, rfl, .inl dn14, keyv_mark (t14 _ _ ht13) (t14 _ _ hr13), mkey_depth _, mv, ?_⟩
                      refine ⟨_, rfl, _, rfl, R, kp s, rfl, keyv_pr pv14, kp_depth s, .inr ⟨kr, dnR14, by rw [sizeLine_eq]; omega, fun H15 f15 D15 => ?_⟩⟩
                      rw [putN_new (by rw [pkR14.keys]; exact kp_take KO.nd hs)] at D15
                      have n14 : ∃ es ep, H14 R = some (rawO R es ep) := let ⟨es, ep, e, _⟩ := dnR14; ⟨es, ep, e⟩
                      obtain ⟨es14, ep14, n14⟩ := n14
                      have b15 : But R H14 H15 := fun c o h e => by rw [f15 c h]; exact e
                      have t15 : KpT H14 H15 := but_tup (fun xs z => by rw [n14] at z; cases z) b15
                      refine ⟨_, _, _, _, km', _, rfl, fun c o h1 h2 e => b15 _ _ h2 (b14 _ _ h1 (s_13 _ _ (bi _ _ h1 h2 e))), ?_, nu14, D15, ?_⟩
                      · obtain ⟨es, ep, e, r⟩ := dn14
                        exact ⟨es, ep, b15 _ _ nMR2 e, r.up t15⟩
                      · rw [tk1]
                        refine paired_app (pkR14.up t15) (.cons ⟨rfl, pv14.up t15, ?_⟩ .nil)
                        have ed : L.map (Mo.mark cells pf) = (L.take (i + 1)).map (Mo.mark cells pf) ++ (L.drop (i + 1)).map (Mo.mark cells pf) := by rw [← List.map_append, List.take_append_drop]
                        have epos : Mo.fin1 cells L pf s = Mo.pos (Mo.dist ((L.take (i + 1)).map (Mo.mark cells pf))) (Mo.mark cells pf s) := by
                          unfold Mo.fin1
                          rw [ed]
                          exact Mo.dist_idx mk1 _
                        rw [epos, tk1]
                · rintro σ Hi ⟨y4, y9, y10, y11, km, kr, rfl, bi, dnM, nuM, dnR, pkR⟩
                  rw [lkv, List.take_length] at pkR
                  refine ⟨kr, y4, y9, y10, y11, rfl, fun c o e => ?_, dnR, pkR⟩
                  exact bi _ _ (fun z => by rw [z, nM] at e; cases e) (fun z => by rw [z, nR9] at e; cases e) (s910 _ _ e)
              · rintro σ' H11 ⟨kr, y4, y9, y10, y11, rfl, s11, DR, PR⟩
                refine ⟨_, rfl, _, by omega, R, _, kr, Mo.many L pf, _, _, _, _, _, _, rfl, sf9.trans s11, ?_, DR, PR, rfl, .inr ⟨pf, rfl, rfl⟩⟩
                cases e : Hf R with
                | none => rfl
                | some o => rw [sf9 _ _ e] at nR9; cases nR9
      · rintro σ H2 ⟨p, pf, kpp, m, y4, y7, y8, y9, y10, y11, rfl, s2, dfp, PK, inj⟩
        have sH2 := sHf.trans s2
        have tl2 := tlf.same s2
        have df2 := df.mono s2
        have hx2 := hx.up (KpT.of sH2)
        have keyN : ∀ {ks : List Sx.St} {kn : List Kvv} (u : Sx.St), (∀ z ∈ ks, z ∈ L) → u ∈ L → NumK (fun s => NestedKey.num ((pf s : Nat) : Int)) kn ks → (NestedKey.num ((pf u : Nat) : Int) ∈ kn.map (·.1) ↔ u ∈ ks) := fun {ks kn} u hks hu nu => by
          rw [nu.keys]
          exact ⟨fun h => by
            obtain ⟨z, hz, e⟩ := List.mem_map.mp h
            injection e with e
            rw [← inj z (hks z hz) u hu (by omega)]; exact hz, fun h => List.mem_map.mpr ⟨u, h, rfl⟩⟩
        have dep : ∀ z : Int, (NestedKey.num z).depth ≤ 8 := fun z => by simp only [NestedKey.depth]; omega
        refine ⟨_, rfl, (by show 1 ≤ sizeLine; decide), fun ol nol => ?_⟩
        have s3 := same_upd (o := .lst [x]) nol
        have ho3 : (upd H2 ol (.lst [x])) ol = some (.lst [x]) := upd_same
        generalize upd H2 ol (.lst [x]) = H3 at s3 ho3 ⊢
        refine fun nd nnd => ?_
        have s4 := same_upd (o := rawO nd #[] 0) nnd
        obtain ⟨i0, m0⟩ := PK.at_ hk0
        refine ⟨_, rfl, _, rfl, p, kpp, kp k0, i0, _, rfl, .inr (dfp.mono (s3.trans s4)), keyv_pr (hx2.up (KpT.of (s3.trans s4))), kp_depth k0, m0, NestedKey.num ((pf k0 : Nat) : Int), upd_same, .int _, dep _, fun H5 f5 D5 => ?_⟩
        have s5 : Same H3 H5 := fun b o e => by
          have nb : b ≠ nd := fun z => by rw [z, nnd] at e; cases e
          rw [f5 b nb]; exact s4 _ _ e
        refine ⟨(by show 0 ≤ sizeLine; decide), fun rl nrl => ?_⟩
        have s6 := same_upd (o := .lst []) nrl
        have hr6 : (upd H5 rl (.lst [])) rl = some (.lst []) := upd_same
        have D6 := dn_same D5 s6
        have no_nd : ol ≠ nd := fun z => by rw [← z, ho3] at nnd; cases nnd
        have no_rl : ol ≠ rl := fun z => by rw [← z, s5 _ _ ho3] at nrl; cases nrl
        have nd_rl : nd ≠ rl := fun z => by
          obtain ⟨es, ep, e, _⟩ := D5
          rw [← z, e] at nrl; cases nrl
        have s26 : Same H2 (upd H5 rl (.lst [])) := (s3.trans s5).trans s6
        have ho6 := s6 _ _ (s5 _ _ ho3)
        have n2o : H2 ol = none := nol
        have n2n : H2 nd = none := by
          cases e : H2 nd with
          | none => rfl
          | some o => rw [s3 _ _ e] at nnd; cases nnd
        have n2r : H2 rl = none := by
          cases e : H2 rl with
          | none => rfl
          | some o => rw [s5 _ _ (s3 _ _ e)] at nrl; cases nrl
        generalize upd H5 rl (.lst []) = H6 at s26 hr6 D6 ho6 ⊢
        refine ⟨fun μ σ Hc => ∃ (n : Nat) (y4 y9 y10 y11 : Option V) (xs ts : List V) (kn : List Kvv), σ = [some (.int B), some x, some (.ref t), some (.ref d), y4, some (.ref p), some (.int m), y7, y8, y9, y10, y11, some (.ref ol), some (.ref nd), some (.ref rl)] ∧ Same H2 Hc ∧ n ≤ (Bf.run cells k0 n).1.length ∧ μ = L.length - n ∧ Hc ol = some (.lst xs) ∧ Paired (IsPr Hc) xs (Bf.run cells k0 n).1 ∧ DN w Hc nd kn ∧ NumK (fun s => NestedKey.num ((pf s : Nat) : Int)) kn (Bf.run cells k0 n).1 ∧ Hc rl = some (.lst ts) ∧ Paired (IsRow Hc) ts (Bf.run cells k0 n).2, ⟨_, 0, y4, y9, y10, y11, [x], [], _, rfl, s26, Nat.zero_le _, rfl, ho6, .cons (hx2.up (KpT.of s26)) .nil, D6, rfl, hr6, .nil⟩, ?_⟩
        rintro μ σ Hc ⟨n, y4, y9, y10, y11, xs, ts, kn, rfl, sc, hn, rfl, ho, px, dn, nu, ht, pt⟩
        have lx : xs.length = (Bf.run cells k0 n).1.length := Paired.length px
        obtain ⟨rl2, rn⟩ := Bf.run_len (cells := cells) (first := k0) n hn
        have lt : ts.length = n := (Paired.length pt).trans rl2
        have rin := Bf.run_in (cells := cells) hk0 KO.cl n
        have kn_le := Bf.nd_le rn rin
        refine ⟨_, rfl, rl, _, rfl, .inl (SqL.of ht), _, rfl, ol, _, rfl, .inl (SqL.of ho), _, _, rfl, rfl, _, rfl, ?_⟩
        rw [lt, lx]
        by_cases c : n = (Bf.run cells k0 n).1.length
        · refine ifF (decide_eq_false (by omega)) ?_
          refine ⟨_, rfl, _, rfl, rl, ts, rfl, .inl ⟨SqL.of ht, fun tr ntr => ⟨(by show 2 ≤ sizeLine; decide), fun tb ntb => ?_⟩⟩⟩
          have a1 := same_upd (o := .tup ts) ntr
          have a2 := same_upd (o := .tup [.int B, .ref tr]) ntb
          exact k n tb tr ts _ c.symm (((sH2.trans sc).trans a1).trans a2) upd_same (a2 _ _ upd_same) (rows_up (KpT.of (a1.trans a2)) pt)
        · refine ifT (decide_eq_true (by omega)) ⟨_, fun σ' H' h => h, ?_⟩
          have hlt : n < (Bf.run cells k0 n).1.length := by omega
          obtain ⟨s0, hs0⟩ : ∃ s0, (Bf.run cells k0 n).1[n]? = some s0 := ⟨_, List.getElem?_eq_getElem hlt⟩
          have sL := rin s0 (List.mem_of_getElem? hs0)
          obtain ⟨x0, hx0, px0⟩ : ∃ x0, xs[n]? = some x0 ∧ IsPr Hc x0 s0 := by
            have h1 : n < xs.length := by omega
            obtain ⟨b, g1, g2⟩ := L2.paired_get px (List.getElem?_eq_getElem h1)
            rw [hs0] at g1
            cases g1
            exact ⟨_, List.getElem?_eq_getElem h1, g2⟩
          have run1 := Bf.run_next hs0
          have in1 : ∀ z ∈ Bf.add (Bf.run cells k0 n).1 (cells s0), z ∈ L := fun z hz => by
            rcases Bf.add_in _ hz with q | q
            · exact rin z q
            · exact KO.cl s0 sL z q
          refine ⟨(by show 0 ≤ sizeLine; decide), fun wl nwl => ?_⟩
          have s7 := same_upd (o := .lst []) nwl
          have hw7 : (upd Hc wl (.lst [])) wl = some (.lst []) := upd_same
          have sc7 := sc.trans s7
          have ho7 := s7 _ _ ho
          have ht7 := s7 _ _ ht
          have dn7 := dn_same dn s7
          have px7 := prs_up (KpT.of s7) px
          have pt7 := rows_up (KpT.of s7) pt
          have px07 := px0.up (KpT.of s7)
          have nwo : wl ≠ ol := fun z => by rw [z, ho] at nwl; cases nwl
          have nwr : wl ≠ rl := fun z => by rw [z, ht] at nwl; cases nwl
          have nwn : wl ≠ nd := fun z => by
            obtain ⟨es, ep, e, _⟩ := dn
            rw [z, e] at nwl; cases nwl
          have n2w : H2 wl = none := by
            cases e : H2 wl with
            | none => rfl
            | some o => rw [sc _ _ e] at nwl; cases nwl
          generalize upd Hc wl (.lst []) = H7 at s7 hw7 sc7 ho7 ht7 dn7 px7 pt7 px07 ⊢
          obtain ⟨is0, l, ls, ml, hl2, pl2⟩ := tl2.at_ sL
          have hl := sc7 _ _ hl2
          have pl := ops_up (KpT.of sc7) pl2
          have df7 := df2.mono sc7
          have dfp7 := dfp.mono sc7
          have lls : ls.length = (cells s0).length := Paired.length pl
          have lns := KO.ln s0
          have nlw : l ≠ wl := fun z => by rw [z, n2w] at hl2; cases hl2
          have nlo : l ≠ ol := fun z => by rw [z, n2o] at hl2; cases hl2
          have nln : l ≠ nd := fun z => by rw [z, n2n] at hl2; cases hl2
          have lt7 : n < 5001 := by omega
          refine ⟨_, rfl, _, rfl, _, rfl, rl, _, rfl, .inl (SqL.of ht7), ol, xs, ((ts.length : Nat) : Int), x0, rfl, rfl, SqL.of ho7, atI_nat (by rw [lt]; exact hx0), d, kv, kp s0, is0, .ref l, rfl, .inr df7, keyv_pr px07, kp_depth s0, ml, l, rfl, ⟨_, SqL.of hl⟩, ?_⟩
          have nft : ∀ c ys, H7 c = some (.tup ys) → c ≠ ol ∧ c ≠ nd ∧ c ≠ wl := fun c ys e => by
            obtain ⟨es, ep, e3, _⟩ := dn7
            refine ⟨fun z => ?_, fun z => ?_, fun z => ?_⟩
            · rw [z, ho7] at e; cases e
            · rw [z, e3] at e; cases e
            · rw [z, hw7] at e; cases e
          have ndol : d ≠ ol := fun z => by rw [z] at e2; rw [s2 _ _ e2] at n2o; cases n2o
          have ndnd : d ≠ nd := fun z => by rw [z] at e2; rw [s2 _ _ e2] at n2n; cases n2n
          have ndwl : d ≠ wl := fun z => by rw [z] at e2; rw [s2 _ _ e2] at n2w; cases n2w
          have pfz : ∃ od u, H2 p = some (.frz od u) := let ⟨od, u, _, _, h1, _⟩ := dfp; ⟨od, u, h1⟩
          obtain ⟨odq, uq, pfz⟩ := pfz
          have npol : p ≠ ol := fun z => by rw [z, n2o] at pfz; cases pfz
          have npnd : p ≠ nd := fun z => by rw [z, n2n] at pfz; cases pfz
          have npwl : p ≠ wl := fun z => by rw [z, n2w] at pfz; cases pfz
          have dfp_up : ∀ {Hi : Hp}, (∀ c o, c ≠ ol → c ≠ nd → c ≠ wl → H7 c = some o → Hi c = some o) → DF w Hi p kpp := fun {Hi} bi => by
            have ti : KpT H7 Hi := fun c ys e => let ⟨h1, h2, h3⟩ := nft c ys e; bi c _ h1 h2 h3 e
            obtain ⟨od, u, es, ep, h1, h2, h3, h4, h5, h6⟩ := dfp7
            exact ⟨od, u, es, ep, bi _ _ npol npnd npwl h1, h2, h3, h4, h5.up ti, h6⟩
          refine for_it (walk_list (K := K) (a := l) (xs := ls)) (fun i σ Hi => ∃ (y9 y11 : Option V) (xs4 : List V) (kn4 : List Kvv), σ = [some (.int B), some x, some (.ref t), some (.ref d), y4, some (.ref p), some (.int m), y7, y8, y9, some (.ref wl), y11, some (.ref ol), some (.ref nd), some (.ref rl)] ∧ (∀ c o, c ≠ ol → c ≠ nd → c ≠ wl → H7 c = some o → Hi c = some o) ∧ Hi ol = some (.lst xs4) ∧ Paired (IsPr Hi) xs4 (Bf.add (Bf.run cells k0 n).1 ((cells s0).take i)) ∧ DN w Hi nd kn4 ∧ NumK (fun s => NestedKey.num ((pf s : Nat) : Int)) kn4 (Bf.add (Bf.run cells k0 n).1 ((cells s0).take i)) ∧ Hi wl = some (.lst (((cells s0).take i).map fun o => nV (o.map fun u => Mo.pos (Bf.add (Bf.run cells k0 n).1 (cells s0)) u)))) ?_ ?_ ?_ ?_
          · exact ⟨_, _, xs, kn, rfl, fun c o _ _ _ e => e, ho7, px7, dn7, nu, hw7⟩
          · rintro i σ Hi _ ⟨y9, y11, xs4, kn4, rfl, bi, _⟩
            exact SqL.of (bi _ _ nlo nln nlw hl)
          · rintro i v σ Ho Hi hi ⟨y9, y11, xs4, kn4, rfl, bi, ho4, px4, dn4, nu4, hw4⟩ ⟨rfl, hv⟩
            obtain ⟨o, hoo, io⟩ := L2.paired_get pl hv
            have ti : KpT H7 Hi := fun c ys e => let ⟨h1, h2, h3⟩ := nft c ys e; bi c _ h1 h2 h3 e
            have dfpi := dfp_up bi
            have tk : (cells s0).take (i + 1) = (cells s0).take i ++ [o] := by rw [List.take_add_one, hoo]; rfl
            have ioi := io.up ti
            have in4 : ∀ z ∈ Bf.add (Bf.run cells k0 n).1 ((cells s0).take i), z ∈ L := fun z hz => by
              rcases Bf.add_in _ hz with q | q
              · exact rin z q
              · exact KO.cl s0 sL z (List.mem_of_mem_take q)
            have nd4 : (Bf.add (Bf.run cells k0 n).1 ((cells s0).take i)).Nodup := Bf.add_nod _ rn
            have le4 := Bf.nd_le nd4 in4
            have lx4 : xs4.length = _ := Paired.length px4
            have ln4 := nu4.len
            have oL : ∀ u, o = some u → u ∈ L := fun u e => KO.cl s0 sL u (by rw [← e]; exact List.mem_of_getElem? hoo)
            refine ⟨fun σ' H' => ∃ (xs5 : List V) (kn5 : List Kvv), σ' = [some (.int B), some x, some (.ref t), some (.ref d), y4, some (.ref p), some (.int m), y7, y8, some v, some (.ref wl), y11, some (.ref ol), some (.ref nd), some (.ref rl)] ∧ (∀ c o, c ≠ ol → c ≠ nd → c ≠ wl → H7 c = some o → H' c = some o) ∧ H' ol = some (.lst xs5) ∧ Paired (IsPr H') xs5 (Bf.add (Bf.run cells k0 n).1 ((cells s0).take (i + 1))) ∧ DN w H' nd kn5 ∧ NumK (fun s => NestedKey.num ((pf s : Nat) : Int)) kn5 (Bf.add (Bf.run cells k0 n).1 ((cells s0).take (i + 1))) ∧ H' wl = some (.lst (((cells s0).take i).map fun o => nV (o.map fun u => Mo.pos (Bf.add (Bf.run cells k0 n).1 (cells s0)) u))), ?_, ?_⟩
            · rw [tk, add_one]
              refine ⟨_, rfl, rfl, _, rfl, ?_⟩
              cases o with
              | none =>
                cases (show v = V.non from ioi)
                exact ifF (by simp) (ifF rfl ⟨xs4, kn4, rfl, bi, ho4, px4, dn4, nu4, hw4⟩)
              | some u =>
                have uL := oL u rfl
                have iv : IsPr Hi v u := ioi
                have vn : v ≠ V.non := fun z => by
                  obtain ⟨tt, e, _⟩ := iv
                  rw [z] at e; cases e
                obtain ⟨iu, mu⟩ := PK.at_ uL
                have hmem := keyN u in4 uL nu4
                refine ifT (by rw [decide_eq_false vn]; rfl) ?_
                refine ⟨_, rfl, _, rfl, p, kpp, kp u, iu, _, rfl, .inr dfpi, keyv_pr iv, kp_depth u, mu, _, rfl, nd, kn4, NestedKey.num ((pf u : Nat) : Int), rfl, .inl dn4, .int _, dep _, _, rfl, ?_⟩
                rw [Bool.true_xor]
                by_cases cu : u ∈ Bf.add (Bf.run cells k0 n).1 ((cells s0).take i)
                · refine ifF (by rw [decide_eq_true (hmem.mpr cu)]; rfl) ?_
                  rw [show Bf.add (Bf.add (Bf.run cells k0 n).1 ((cells s0).take i)) [some u] = Bf.add (Bf.run cells k0 n).1 ((cells s0).take i) from if_pos cu]
                  exact ⟨xs4, kn4, rfl, bi, ho4, px4, dn4, nu4, hw4⟩
                · have nmem : NestedKey.num ((pf u : Nat) : Int) ∉ kn4.map (·.1) := fun z => cu (hmem.mp z)
                  refine ifT (by rw [decide_eq_false nmem]; rfl) ?_
                  rw [show Bf.add (Bf.add (Bf.run cells k0 n).1 ((cells s0).take i)) [some u] = Bf.add (Bf.run cells k0 n).1 ((cells s0).take i) ++ [u] from if_neg cu]
                  refine ⟨_, rfl, nd, kn4, rfl, .inl dn4, _, rfl, _, rfl, _, rfl, p, kpp, kp u, iu, _, rfl, .inr dfpi, keyv_pr iv, kp_depth u, mu, nd, NestedKey.num ((pf u : Nat) : Int), rfl, .int _, dep _, .inr ⟨kn4, dn4, (by rw [sizeLine_eq]; omega), fun H8 f8 D8 => ?_⟩⟩
                  rw [putN_new nmem] at D8
                  have n8 : ∃ es ep, Hi nd = some (rawO nd es ep) := let ⟨es, ep, e, _⟩ := dn4; ⟨es, ep, e⟩
                  obtain ⟨es8, ep8, n8⟩ := n8
                  have b8 : But nd Hi H8 := fun c o h e => by rw [f8 c h]; exact e
                  have t8 : KpT Hi H8 := but_tup (fun xs z => by rw [n8] at z; cases z) b8
                  have ho8 := b8 _ _ no_nd ho4
                  refine ⟨_, rfl, .inl ⟨rfl, _, SqL.of ho8⟩, _, rfl, ol, xs4, v, rfl, rfl, ho8, (by rw [sizeLine_eq]; omega), ?_⟩
                  have t9 : KpT H8 (upd H8 ol (.lst (xs4 ++ [v]))) := fun c ys e => by rw [upd_ne (fun z => by rw [z, ho8] at e; cases e)]; exact e
                  refine ⟨xs4 ++ [v], kn4 ++ [(NestedKey.num ((pf u : Nat) : Int), V.int ((pf u : Nat) : Int), V.int ((kn4.length : Nat) : Int))], rfl, fun c o h1 h2 h3 e => ?_, upd_same, paired_app (prs_up t9 (prs_up t8 px4)) (.cons (iv.up fun c ys e => t9 _ _ (t8 _ _ e)) .nil), ?_, by rw [ln4]; exact nu4.new _, ?_⟩
                  · rw [upd_ne h1]
                    exact b8 _ _ h2 (bi _ _ h1 h2 h3 e)
                  · obtain ⟨es, ep, e, r⟩ := D8
                    exact ⟨es, ep, by rw [upd_ne no_nd.symm]; exact e, r.up t9⟩
                  · rw [upd_ne nwo]
                    exact b8 _ _ nwn hw4
            · rintro σ' H' ⟨xs5, kn5, rfl, b5, ho5, px5, dn5, nu5, hw5⟩
              refine ⟨_, rfl, .inl ⟨rfl, _, SqL.of hw5⟩, ?_⟩
              have t5 : KpT H7 H' := fun c ys e => let ⟨h1, h2, h3⟩ := nft c ys e; b5 c _ h1 h2 h3 e
              have dfp5 := dfp_up b5
              have ezr : ((cells s0).take (i + 1)).map (fun o => nV (o.map fun u => Mo.pos (Bf.add (Bf.run cells k0 n).1 (cells s0)) u)) = ((cells s0).take i).map (fun o => nV (o.map fun u => Mo.pos (Bf.add (Bf.run cells k0 n).1 (cells s0)) u)) ++ [nV (o.map fun u => Mo.pos (Bf.add (Bf.run cells k0 n).1 (cells s0)) u)] := by rw [tk, List.map_append]; rfl
              have lw : (((cells s0).take i).map (fun o => nV (o.map fun u => Mo.pos (Bf.add (Bf.run cells k0 n).1 (cells s0)) u))).length < sizeLine := by rw [List.length_map, List.length_take, sizeLine_eq]; omega
              have fin : ∀ u5 : V, u5 = nV (o.map fun u => Mo.pos (Bf.add (Bf.run cells k0 n).1 (cells s0)) u) → ∃ (z9 z11 : Option V) (xs4 : List V) (kn4 : List Kvv), [some (.int B), some x, some (.ref t), some (.ref d), y4, some (.ref p), some (.int m), y7, y8, some v, some (.ref wl), y11, some (.ref ol), some (.ref nd), some (.ref rl)] = [some (.int B), some x, some (.ref t), some (.ref d), y4, some (.ref p), some (.int m), y7, y8, z9, some (.ref wl), z11, some (.ref ol), some (.ref nd), some (.ref rl)] ∧ (∀ c o, c ≠ ol → c ≠ nd → c ≠ wl → H7 c = some o → (upd H' wl (.lst (((cells s0).take i).map (fun o => nV (o.map fun u => Mo.pos (Bf.add (Bf.run cells k0 n).1 (cells s0)) u)) ++ [u5]))) c = some o) ∧ (upd H' wl (.lst (((cells s0).take i).map (fun o => nV (o.map fun u => Mo.pos (Bf.add (Bf.run cells k0 n).1 (cells s0)) u)) ++ [u5]))) ol = some (.lst xs4) ∧ Paired (IsPr (upd H' wl (.lst (((cells s0).take i).map (fun o => nV (o.map fun u => Mo.pos (Bf.add (Bf.run cells k0 n).1 (cells s0)) u)) ++ [u5])))) xs4 (Bf.add (Bf.run cells k0 n).1 ((cells s0).take (i + 1))) ∧ DN w (upd H' wl (.lst (((cells s0).take i).map (fun o => nV (o.map fun u => Mo.pos (Bf.add (Bf.run cells k0 n).1 (cells s0)) u)) ++ [u5]))) nd kn4 ∧ NumK (fun s => NestedKey.num ((pf s : Nat) : Int)) kn4 (Bf.add (Bf.run cells k0 n).1 ((cells s0).take (i + 1))) ∧ (upd H' wl (.lst (((cells s0).take i).map (fun o => nV (o.map fun u => Mo.pos (Bf.add (Bf.run cells k0 n).1 (cells s0)) u)) ++ [u5]))) wl = some (.lst (((cells s0).take (i + 1)).map fun o => nV (o.map fun u => Mo.pos (Bf.add (Bf.run cells k0 n).1 (cells s0)) u))) := by
                rintro u5 rfl
                have t9 : KpT H' (upd H' wl (.lst (((cells s0).take i).map (fun o => nV (o.map fun u => Mo.pos (Bf.add (Bf.run cells k0 n).1 (cells s0)) u)) ++ [nV (o.map fun u => Mo.pos (Bf.add (Bf.run cells k0 n).1 (cells s0)) u)]))) := fun c ys e => by rw [upd_ne (fun z => by rw [z, hw5] at e; cases e)]; exact e
                refine ⟨_, _, xs5, kn5, rfl, fun c o h1 h2 h3 e => ?_, ?_, prs_up t9 px5, ?_, nu5, by rw [ezr]; exact upd_same⟩
                · rw [upd_ne h3]; exact b5 _ _ h1 h2 h3 e
                · rw [upd_ne nwo.symm]; exact ho5
                · obtain ⟨es, ep, e, r⟩ := dn5
                  exact ⟨es, ep, by rw [upd_ne nwn.symm]; exact e, r.up t9⟩
              refine ⟨_, rfl, rfl, _, rfl, ?_⟩
              cases o with
              | none =>
                cases (show v = V.non from ioi)
                exact ifT (by simp) ⟨wl, _, V.non, rfl, rfl, hw5, lw, fin V.non rfl⟩
              | some u =>
                have uL := oL u rfl
                have iv : IsPr H' v u := IsPr.up t5 (show IsPr H7 v u from io)
                have vn : v ≠ V.non := fun z => by
                  obtain ⟨tt, e, _⟩ := iv
                  rw [z] at e; cases e
                obtain ⟨iu, mu⟩ := PK.at_ uL
                have u5 : u ∈ Bf.add (Bf.run cells k0 n).1 ((cells s0).take (i + 1)) := Bf.add_mem _ (by rw [tk]; exact List.mem_append_right _ (by simp))
                obtain ⟨iv2, mv2⟩ := nu5.at_ u5
                have epos : Mo.pos (Bf.add (Bf.run cells k0 n).1 (cells s0)) u = Mo.pos (Bf.add (Bf.run cells k0 n).1 ((cells s0).take (i + 1))) u := by
                  have e1 : Bf.add (Bf.run cells k0 n).1 (cells s0) = Bf.add (Bf.add (Bf.run cells k0 n).1 ((cells s0).take (i + 1))) ((cells s0).drop (i + 1)) := by
                    rw [← Mo.add_split, List.take_append_drop]
                  obtain ⟨more, e2⟩ := Bf.add_app ((cells s0).drop (i + 1)) (Bf.add (Bf.run cells k0 n).1 ((cells s0).take (i + 1)))
                  rw [e1, e2]
                  exact Bf.idx_app u5
                refine ifF (decide_eq_false vn) ?_
                exact ⟨_, rfl, _, rfl, _, rfl, p, kpp, kp u, iu, _, rfl, .inr dfp5, keyv_pr iv, kp_depth u, mu, nd, kn5, NestedKey.num ((pf u : Nat) : Int), iv2, _, rfl, .inl dn5, .int _, dep _, mv2, wl, _, _, rfl, rfl, hw5, lw, fin (V.int ((Mo.pos (Bf.add (Bf.run cells k0 n).1 ((cells s0).take (i + 1))) u : Nat) : Int)) (by rw [← epos]; rfl)⟩
          · rintro σ Hi ⟨y9, y11, xs4, kn4, rfl, bi, ho4, px4, dn4, nu4, hw4⟩
            rw [lls, List.take_length] at px4 nu4 hw4
            have ti : KpT H7 Hi := fun c ys e => let ⟨h1, h2, h3⟩ := nft c ys e; bi c _ h1 h2 h3 e
            have ht4 := bi _ _ no_rl.symm nd_rl.symm nwr.symm ht7
            refine ⟨_, rfl, .inl ⟨rfl, _, SqL.of ht4⟩, _, rfl, wl, _, rfl, .inl ⟨SqL.of hw4, fun lr nlr => ?_⟩⟩
            have s8 := same_upd (o := .tup ((cells s0).map fun o => nV (o.map fun u => Mo.pos (Bf.add (Bf.run cells k0 n).1 (cells s0)) u))) nlr
            have hl8 : (upd Hi lr (.tup ((cells s0).map fun o => nV (o.map fun u => Mo.pos (Bf.add (Bf.run cells k0 n).1 (cells s0)) u)))) lr = some (.tup ((cells s0).map fun o => nV (o.map fun u => Mo.pos (Bf.add (Bf.run cells k0 n).1 (cells s0)) u))) := upd_same
            have ht8 := s8 _ _ ht4
            refine ⟨rl, ts, .ref lr, rfl, rfl, ht8, (by rw [lt, sizeLine_eq]; omega), ?_⟩
            generalize upd Hi lr (.tup ((cells s0).map fun o => nV (o.map fun u => Mo.pos (Bf.add (Bf.run cells k0 n).1 (cells s0)) u))) = H8 at s8 hl8 ht8 ⊢
            have t9 : KpT H8 (upd H8 rl (.lst (ts ++ [.ref lr]))) := fun c ys e => by rw [upd_ne (fun z => by rw [z, ht8] at e; cases e)]; exact e
            have t79 : KpT H7 (upd H8 rl (.lst (ts ++ [.ref lr]))) := fun c ys e => t9 _ _ (s8 _ _ (ti _ _ e))
            have le1 := Bf.nd_le rn (fun z hz => Bf.add_old (cells s0) hz)
            refine ⟨L.length - (n + 1), by omega, n + 1, _, _, _, _, xs4, ts ++ [.ref lr], kn4, rfl, fun c o e => ?_, ?_, rfl, ?_, ?_, ?_, ?_, upd_same, ?_⟩
            · have e7 := sc7 _ _ e
              have c1 : c ≠ ol := fun z => by rw [z, n2o] at e; cases e
              have c2 : c ≠ nd := fun z => by rw [z, n2n] at e; cases e
              have c3 : c ≠ wl := fun z => by rw [z, n2w] at e; cases e
              have c4 : c ≠ rl := fun z => by rw [z, n2r] at e; cases e
              rw [upd_ne c4]
              exact s8 _ _ (bi _ _ c1 c2 c3 e7)
            · rw [run1]; dsimp only; omega
            · rw [upd_ne no_rl]; exact s8 _ _ ho4
            · rw [run1]; exact prs_up t9 (prs_up (KpT.of s8) px4)
            · obtain ⟨es, ep, e, r⟩ := dn_same dn4 s8
              exact ⟨es, ep, by rw [upd_ne nd_rl]; exact e, r.up t9⟩
            · rw [run1]; exact nu4
            · rw [run1]
              refine paired_app (rows_up t79 pt7) (.cons ⟨lr, rfl, t9 _ _ ?_⟩ .nil)
              rw [hl8]
              unfold Bf.row
              rw [List.map_map]; rfl
end
end My

set_option linter.all false
namespace My
open PySem PySem.Spec PyProof.Rows L2
/-! ### _law_is_less, _law_stretch -/
abbrev sLess : Stmt := topS 27
abbrev sLStr : Stmt := topS 28
theorem TabL.off {H H' : Hp} {p : Addr} {cells : Sx.St → List (Option Sx.St)} {kvs : List Kvv} {L : List Sx.St} (h : TabL H cells kvs L) (n1 : ∀ xs, H p ≠ some (.tup xs)) (n3 : ∀ e ∈ kvs, e.2.2 ≠ .ref p) (b : But p H H') : TabL H' cells kvs L := by
  unfold TabL at h ⊢
  induction h with
  | nil => exact .nil
  | @cons e s _ _ h t ih =>
    refine .cons ?_ (ih fun e he => n3 e (List.mem_cons_of_mem _ he))
    obtain ⟨h1, h2, l, xs, h3, h4, h5⟩ := h
    have tt := but_tup n1 b
    exact ⟨h1, h2.up tt, l, xs, h3, b _ _ (fun z => n3 _ List.mem_cons_self (by rw [h3, z])) h4, ops_up tt h5⟩
theorem paired_snoc {α β : Type} {R : α → β → Prop} : ∀ {as : List α} {bs : List β} {b : β}, Paired R as (bs ++ [b]) → ∃ as' a, as = as' ++ [a] ∧ Paired R as' bs ∧ R a b
  | _, [], b, .cons h .nil => ⟨[], _, rfl, .nil, h⟩
  | _, _ :: _, b, .cons h t => by
    obtain ⟨as', a, e, h2, h3⟩ := paired_snoc t
    exact ⟨_ :: as', a, by rw [e]; rfl, .cons h h2, h3⟩
/-- the law's states: the program's, called otherwise -/
def LD (p q : Int) (k : Sx.St) : Prop := Sx.Al (p * q) k ∧ ∃ k', k = Sx.phi p q k'
theorem LD.step {B : Nat} {p q : Int} (hp : 0 < p) (hq : 0 < q) (k t : Sx.St) (h : LD p q k) (hm : some t ∈ Sx.cells B (p * q) k) : LD p q t := by
  obtain ⟨al, k', rfl⟩ := h
  refine ⟨Sx.cells_al (Int.mul_pos hp hq) al hm, ?_⟩
  rw [Sx.cells_phi hp hq] at hm
  obtain ⟨o, ho, e⟩ := List.mem_map.mp hm
  cases o with
  | none => cases e
  | some t' => exact ⟨t', (Option.some.inj e).symm⟩
theorem LD.le {B : Nat} {a p b q : Int} (h : EndsOk B a p b q) {L : List Sx.St} (nd : L.Nodup) (hL : ∀ k ∈ L, LD p q k) : L.length ≤ 3721 := by
  have q0 := h.q0
  have p0 := h.p0
  have q1 := h.q1
  have p1 := h.p1
  have := Bf.nd_le (C := (Sx.box p.toNat q.toNat).map (Sx.phi p q)) nd fun k hk => by
    obtain ⟨al, k', rfl⟩ := hL k hk
    obtain ⟨g1, g2, g3, g4⟩ := al.of p0 q0
    exact List.mem_map.mpr ⟨k', Sx.box_mem ⟨g1, by omega, g3, by omega⟩, rfl⟩
  rw [List.length_map, Sx.box_len] at this
  exact Nat.le_trans this (Nat.mul_le_mul (show p.toNat + 1 ≤ 61 by omega) (show q.toNat + 1 ≤ 61 by omega))
theorem cells_len (B : Nat) (w : Int) (k : Sx.St) : (Sx.cells B w k).length = B := by
  unfold Sx.cells
  rw [List.length_map, List.length_range]
theorem kpOk_of {B : Nat} {a p b q : Int} (h : EndsOk B a p b q) {start : Sx.St} {L : List Sx.St} (d : Bf.Df (Sx.cells B (p * q)) start (LD p q) L []) : KpOk (Sx.cells B (p * q)) L := by
  have q0 := h.q0
  have p0 := h.p0
  have q1 := h.q1
  have p1 := h.p1
  have pq : 0 < p * q := Int.mul_pos p0 q0
  have pq2 : p * q ≤ 3600 := Int.mul_le_mul p1 q1 (by omega) (by omega)
  refine ⟨d.nd, fun z => ?_, fun s hs t ht => ?_, fun s hs => Sx.cells_goes h.b0 pq (d.al s (.inl hs)).1, fun s hs => ?_, fun s => by rw [cells_len]; have := h.b1; omega, by have := LD.le h d.nd fun k hk => d.al k (.inl hk); omega⟩
  · rcases d.st with g | g
    · rw [z] at g; cases g
    · cases g
  · rcases d.cl s hs t ht with g | g
    · exact g
    · cases g
  · have al := (d.al s (.inl hs)).1
    have h1 := al.b
    have h2 := al.be
    have h3 := al.e
    omega
theorem tells_of {B : Nat} {a p b q : Int} (h : EndsOk B a p b q) {start : Sx.St} {L : List Sx.St} (d : Bf.Df (Sx.cells B (p * q)) start (LD p q) L []) : Tells (Sx.cells B (p * q)) L := fun f hf =>
  Sx.part_inj h.b0 (Int.mul_pos h.p0 h.q0) (fun s hs => (d.al s (.inl hs)).1) (kpOk_of h d).cl hf
section
variable {P : Program} {w : World} {K : PySem.W.Frag} {mg : Str → Option Value} {base : Heap}
theorem scLe : FnScope ["one", "other"] ["one", "other"] (defScope sLess) := ⟨rfl, rfl, rfl, by decide +kernel, rfl, by decide +kernel, by decide +kernel⟩
def spLess : Sp := fun vs H Q _ => ∃ (x y : V) (a b : Sx.St), vs = [x, y] ∧ IsPr H x a ∧ IsPr H y b ∧ -(2 ^ 60) < a.1 ∧ a.1 < 2 ^ 60 ∧ -(2 ^ 60) < b.1 ∧ b.1 < 2 ^ 60 ∧ Q (.bl (decide (a.1 * b.2 < b.1 * a.2))) H
theorem ok_less {f : Addr} {fd : FuncData} (F : Fun K "_law_is_less" "_law_is_less" sLess f fd) : FnOk P w K mg base CX0 1 f fd ["one", "other"] spLess := by
  refine F.ok scLe (fun vs H Q E h => ?_) (fun cdv A outer s0 H vs Q E hr h => ?_)
  · obtain ⟨x, y, a, b, rfl, _⟩ := h
    rfl
  · obtain ⟨x, y, a, b, rfl, ⟨tx, rfl, hx⟩, ⟨ty, rfl, hy⟩, a1, a2, b1, b2, k⟩ := h
    refine ⟨_, (pss_one (ps_ret (pe_cmpR op_lt (pe_op op_mul (pe_ix ix_tup (pv 0) pe_int (fun _ _ => rfl)) (pe_ix ix_tup (pv 1) pe_int (fun _ _ => rfl))) (pe_op op_mul (pe_ix ix_tup (pv 1) pe_int (fun _ _ => rfl)) (pe_ix ix_tup (pv 0) pe_int (fun _ _ => rfl))) (nomark _)))), ?_⟩
    exact ⟨_, rfl, tx, _, 0, _, rfl, rfl, SqT.of hx, rfl, _, rfl, ty, _, 1, _, rfl, rfl, SqT.of hy, rfl, _, _, rfl, rfl, .inl ⟨by omega, by omega⟩, _, rfl, ty, _, 0, _, rfl, rfl, SqT.of hy, rfl, _, rfl, tx, _, 1, _, rfl, rfl, SqT.of hx, rfl, _, _, rfl, rfl, .inl ⟨by omega, by omega⟩, _, _, rfl, rfl, k⟩
structure TgL (mg : Str → Option Value) : Prop where
  range : mg "range" = none
  max : mg "max" = none
  min : mg "min" = none
theorem scLs : FnScope ["base", "low", "high", "whole", "start", "table", "todo", "ends", "row", "digit", "begin", "end", "spot"] ["base", "low", "high"] (defScope sLStr) := ⟨rfl, rfl, rfl, by decide +kernel, rfl, by decide +kernel, by decide +kernel⟩
def spLs : Sp := fun vs H Q _ => ∃ (B : Nat) (x y : V) (a p b q : Int), vs = [.int (B : Nat), x, y] ∧ IsPr H x (a, p) ∧ IsPr H y (b, q) ∧ EndsOk B a p b q ∧ a * q ≤ b * p ∧
  ∀ (n : Nat) (t r : Addr) (xs : List V) (H' : Hp), (Bf.run (Sx.cells B (p * q)) (Sx.phi p q (a, b)) n).1.length = n → Same H H' → H' t = some (.tup [.int (B : Nat), .ref r]) → H' r = some (.tup xs) → Paired (IsRow H') xs (Bf.run (Sx.cells B (p * q)) (Sx.phi p q (a, b)) n).2 → Q (.ref t) H'
set_option maxHeartbeats 1000000 in
theorem ok_ls {f fCa : Addr} {fd fdCa : FuncData} (F : Fun K "_law_stretch" "_law_stretch" sLStr f fd) (T : TgL mg)
    (FCa : Fun K "_law_canon" "_law_canon" sCanon fCa fdCa) (GCa : FnOk P w K mg base CX0 2 fCa fdCa ["base", "start", "table"] (spCanon w)) (bCa : Binds K fdCa ["base", "start", "table"] []) (gCa : mg "_law_canon" = some (.ref fCa)) :
    FnOk P w K mg base CX0 3 f fd ["base", "low", "high"] spLs := by
  refine F.ok scLs (fun vs H Q E h => ?_) (fun cdv A outer s0 H vs Q E hr h => ?_)
  · obtain ⟨B, x, y, a, p, b, q, rfl, _⟩ := h
    rfl
  · obtain ⟨B, x, y, a, p, b, q, rfl, ⟨tx, rfl, hx⟩, ⟨ty, rfl, hy⟩, EO, le, k⟩ := h
    have hr2 := hr
    have hu9 := Nat.lt_trans (Nat.add_lt_add_left (show 9 < 64 by decide) _) hr.units
    have a0 := EO.a0
    have a1 := EO.a1
    have p1 := EO.p1
    have p0 := EO.p0
    have c0 := EO.c0
    have c1 := EO.c1
    have q1 := EO.q1
    have q0 := EO.q0
    have B1 := EO.b1
    have pq : 0 < p * q := Int.mul_pos p0 q0
    have pq2 : p * q ≤ 3600 := Int.mul_le_mul p1 q1 (by omega) (by omega)
    refine ⟨_, (pss_cons (ps_set (i := 3) scLs.nd rfl (Or.inl rfl) (pe_op op_mul (pe_ix ix_tup (pv 1) pe_int (fun _ _ => rfl)) (pe_ix ix_tup (pv 2) pe_int (fun _ _ => rfl))))
      (pss_cons (ps_set (i := 4) scLs.nd rfl (Or.inl rfl) (pe_tup (pa_cons (pe_op op_mul (pe_ix ix_tup (pv 1) pe_int (fun _ _ => rfl)) (pe_ix ix_tup (pv 2) pe_int (fun _ _ => rfl))) (pa_cons (pe_op op_mul (pe_ix ix_tup (pv 2) pe_int (fun _ _ => rfl)) (pe_ix ix_tup (pv 1) pe_int (fun _ _ => rfl))) pa_nil))))
      (pss_cons (ps_set (i := 5) scLs.nd rfl (Or.inl rfl) pe_dnewN)
      (pss_cons (ps_set (i := 6) scLs.nd rfl (Or.inl rfl) (pe_lst (pa_cons (pv 4) pa_nil)))
      (pss_cons (ps_while PassesOwn.never (pt_cmpR (op_neNil hr.units) (pv 6) (pe_lst pa_nil) (nomark _)) (pss_cons (ps_set (i := 7) scLs.nd rfl (Or.inl rfl) (pe_bm0 PySem.F.plainAttrs_list PySem.F.slot_list_pop PySem.F.type_list_pop mt_pop (pv 6)))
      (pss_one (ps_if (pt_cmpR (op_notInR hu9) (pv 7) (pv 5) (by rfl)) (pss_cons (ps_set (i := 8) scLs.nd rfl (Or.inl rfl) (pe_lst pa_nil))
      (pss_cons (ps_for PassesOwn.never rfl (pi_range1 (by rfl) T.range (pa_cons (pv 0) pa_nil)) (pg_name (i := 9) scLs.nd rfl (Or.inl rfl)) (pss_cons (ps_set (i := 10) scLs.nd rfl (Or.inl rfl) (pe_op op_sub (pe_op op_mul (pe_ix ix_tup (pv 7) pe_int (fun _ _ => rfl)) (pv 0)) (pe_op op_mul (pv 9) (pv 3))))
      (pss_cons (ps_set (i := 11) scLs.nd rfl (Or.inl rfl) (pe_op op_sub (pe_op op_mul (pe_ix ix_tup (pv 7) pe_int (fun _ _ => rfl)) (pv 0)) (pe_op op_mul (pv 9) (pv 3))))
      (pss_one (ps_expr (pe_bm PySem.F.plainAttrs_list PySem.F.slot_list_append PySem.F.type_list_append mt_append (pv 8) (pa_cons (pe_ifExp (PW.pt (pw_or (pt_cmpR op_gt (pv 10) (pv 3) (nomark _)) (pw_or1 (pt_cmpR op_lt (pv 11) pe_int (nomark _))))) pe_non (pe_tup (pa_cons (pe_callB (call_max2 rfl) (by rfl) T.max boot_max (pa_cons pe_int (pa_cons (pv 10) pa_nil))) (pa_cons (pe_callB (call_min2 rfl) (by rfl) T.min boot_min (pa_cons (pv 3) (pa_cons (pv 11) pa_nil))) pa_nil)))) pa_nil)))))))
      (pss_cons (ps_asg (pv 8) (pg_sub (pv 5) (pv 7) (set_any hu9)))
      (pss_one (ps_expr (pe_bm PySem.F.plainAttrs_list PySem.F.slot_list_extend PySem.F.type_list_extend mt_extend (pv 6) (pa_cons (pe_lc (own := [("spot", 12)]) (g := gName 12) rfl scLs.nd (pi_list (pv 8)) (blkOk_by (N := ["base", "low", "high", "whole", "start", "table", "todo", "ends", "row", "digit", "begin", "end", "spot"]) (sc := defScope sLStr) (by decide +kernel)) (fun _ _ _ _ _ => (pg_name (i := 12) scLs.nd rfl (Or.inl rfl))) (fun _ _ _ _ _ => (pts_one (pt_cmpR op_notN (pv 12) pe_non (nomark _)))) (fun _ _ _ _ _ => (pv 12))) pa_nil))))))) pss_nil))))
      (pss_one (ps_ret (pe_call GCa hr2 (by rfl) gCa FCa.kp bCa .nil pass0 (pa_cons (pv 0) (pa_cons (pv 4) (pa_cons (pv 5) pa_nil))))))))))), ?_⟩
    refine ⟨_, rfl, tx, _, 1, _, rfl, rfl, SqT.of hx, rfl, _, rfl, ty, _, 1, _, rfl, rfl, SqT.of hy, rfl, _, _, rfl, rfl, .inl ⟨by omega, by omega⟩, ?_⟩
    refine ⟨_, rfl, tx, _, 0, _, rfl, rfl, SqT.of hx, rfl, _, rfl, ty, _, 1, _, rfl, rfl, SqT.of hy, rfl, _, _, rfl, rfl, .inl ⟨by omega, by omega⟩, _, rfl, ty, _, 0, _, rfl, rfl, SqT.of hy, rfl, _, rfl, tx, _, 1, _, rfl, rfl, SqT.of hx, rfl, _, _, rfl, rfl, .inl ⟨by omega, by omega⟩, (by show 2 ≤ sizeLine; decide), fun st nst => ?_⟩
    have s1 := same_upd (o := .tup [.int (a * q), .int (b * p)]) nst
    have hs1 : (upd H st (.tup [.int (a * q), .int (b * p)])) st = some (.tup [.int (a * q), .int (b * p)]) := upd_same
    dsimp only
    generalize upd H st (.tup [.int (a * q), .int (b * p)]) = H1 at s1 hs1 ⊢
    refine fun tb ntb => ?_
    have s2 := same_upd (o := rawO tb #[] 0) ntb
    refine ⟨_, rfl, (by show 1 ≤ sizeLine; decide), fun tl ntl => ?_⟩
    have s3 := same_upd (o := .lst [.ref st]) ntl
    have htl3 : (upd (upd H1 tb (rawO tb #[] 0)) tl (.lst [.ref st])) tl = some (.lst [.ref st]) := upd_same
    have ntt : tb ≠ tl := fun z => by rw [← z, upd_same] at ntl; cases ntl
    have D3 : DN w (upd (upd H1 tb (rawO tb #[] 0)) tl (.lst [.ref st])) tb [] := dn_same dn_new s3
    have s13 := s2.trans s3
    have sH3 := s1.trans s13
    have n1t : H1 tl = none := by
      cases e : H1 tl with
      | none => rfl
      | some o => rw [s2 _ _ e] at ntl; cases ntl
    have nHt : H tl = none := by
      cases e : H tl with
      | none => rfl
      | some o => rw [s1 _ _ e] at n1t; cases n1t
    have nHb : H tb = none := by
      cases e : H tb with
      | none => rfl
      | some o => rw [s1 _ _ e] at ntb; cases ntb
    generalize upd (upd H1 tb (rawO tb #[] 0)) tl (.lst [.ref st]) = H3 at s13 sH3 htl3 D3 ⊢
    have al0 : LD p q (Sx.phi p q (a, b)) := ⟨EO.al le, _, rfl⟩
    have pst : IsPr H3 (.ref st) (Sx.phi p q (a, b)) := ⟨st, rfl, s13 _ _ hs1⟩
    refine ⟨fun μ σ Hc => ∃ (L Tl : List Sx.St) (xs : List V) (kv : List Kvv) (y7 y8 y9 y10 y11 : Option V), σ = [some (.int (B : Nat)), some (.ref tx), some (.ref ty), some (.int (p * q)), some (.ref st), some (.ref tb), some (.ref tl), y7, y8, y9, y10, y11, none] ∧ (∀ c o, c ≠ tl → c ≠ tb → H3 c = some o → Hc c = some o) ∧ Bf.Df (Sx.cells B (p * q)) (Sx.phi p q (a, b)) (LD p q) L Tl ∧ Hc tl = some (.lst xs) ∧ Paired (IsPr Hc) xs Tl ∧ DN w Hc tb kv ∧ TabL Hc (Sx.cells B (p * q)) kv L ∧ (∀ e ∈ kv, e.2.2 ≠ .ref tl) ∧ μ = (3721 - L.length) * 11 + Tl.length ∧ Tl.length + (3721 - L.length) * 10 ≤ 40000, ⟨_, [], [Sx.phi p q (a, b)], [.ref st], [], none, none, none, none, none, rfl, fun c o _ _ e => e, Bf.Df.one al0, htl3, .cons pst .nil, D3, .nil, (fun _ h => nomatch h), rfl, by simp⟩, ?_⟩
    rintro μ σ Hc ⟨L, Tl, xs, kv, y7, y8, y9, y10, y11, rfl, bc, df, htl, pxs, dn, tab, nrow, rfl, szT⟩
    have lL := LD.le EO df.nd fun z hz => df.al z (.inl hz)
    have lkv := tab.len
    refine ⟨_, rfl, (by show 0 ≤ sizeLine; decide), fun Z nZ => ?_⟩
    have sZ := same_upd (o := .lst []) nZ
    have htlZ := sZ _ _ htl
    refine ⟨tl, Z, xs, rfl, rfl, SqL.of htlZ, SqL.of upd_same, _, rfl, ?_⟩
    have dnZ := dn_same dn sZ
    have tabZ := tab.same sZ
    have pxsZ := prs_up (KpT.of sZ) pxs
    have bcZ : ∀ c o, c ≠ tl → c ≠ tb → H3 c = some o → (upd Hc Z (.lst [])) c = some o := fun c o h1 h2 e => sZ _ _ (bc c o h1 h2 e)
    generalize upd Hc Z (.lst []) = Hz at htlZ dnZ tabZ pxsZ bcZ ⊢
    clear sZ nZ bc dn tab pxs htl
    have sHz : Same H Hz := fun c o e => bcZ _ _ (fun z => by rw [z, nHt] at e; cases e) (fun z => by rw [z, nHb] at e; cases e) (sH3 _ _ e)
    have hsz : IsPr Hz (.ref st) (Sx.phi p q (a, b)) := ⟨st, rfl, bcZ _ _ (fun z => by rw [z, n1t] at hs1; cases hs1) (fun z => by rw [z, ntb] at hs1; cases hs1) (s13 _ _ hs1)⟩
    rcases List.eq_nil_or_concat Tl with rfl | ⟨T', kk, hT⟩
    · cases pxsZ
      refine ifF rfl ?_
      have k0L : Sx.phi p q (a, b) ∈ L := by
        rcases df.st with g | g
        · exact g
        · cases g
      exact ⟨_, rfl, _, rfl, _, rfl, B, .ref st, Sx.phi p q (a, b), tb, kv, Sx.cells B (p * q), L, rfl, hsz, k0L, .inl dnZ, tabZ, kpOk_of EO df, tells_of EO df, fun n t r xs H' hn sm ht hr' pr => k n t r xs H' hn (sHz.trans sm) ht hr' pr⟩
    · rw [List.concat_eq_append] at hT
      subst hT
      obtain ⟨xs', v, rfl, pxs', pv⟩ := paired_snoc pxsZ
      refine ifT (by cases xs' <;> rfl) ⟨_, fun σ' H' h => h, ?_⟩
      rw [List.length_append, List.length_singleton] at szT ⊢
      refine ⟨_, rfl, .inl ⟨rfl, _, SqL.of htlZ⟩, tl, xs' ++ [v], v, rfl, rfl, htlZ, by simp, ?_⟩
      rw [List.dropLast_concat]
      have b4 : But tl Hz (upd Hz tl (.lst xs')) := But.upd
      have htl4 : (upd Hz tl (.lst xs')) tl = some (.lst xs') := upd_same
      have t4 : KpT Hz (upd Hz tl (.lst xs')) := but_tup (fun xs z => by rw [htlZ] at z; cases z) b4
      have tab4 := tabZ.off (fun xs z => by rw [htlZ] at z; cases z) nrow b4
      have dn4 : DN w (upd Hz tl (.lst xs')) tb kv := by
        obtain ⟨es, ep, e, r⟩ := dnZ
        exact ⟨es, ep, b4 _ _ ntt e, r.up t4⟩
      have pxs4 := prs_up t4 pxs'
      have pv4 := pv.up t4
      have bc4 : ∀ c o, c ≠ tl → c ≠ tb → H3 c = some o → (upd Hz tl (.lst xs')) c = some o := fun c o h1 h2 e => b4 _ _ h1 (bcZ c o h1 h2 e)
      generalize upd Hz tl (.lst xs') = H4 at htl4 tab4 dn4 pxs4 pv4 bc4 ⊢
      refine ⟨_, rfl, _, rfl, tb, kv, kp kk, rfl, .inl dn4, keyv_pr pv4, kp_depth kk, _, rfl, ?_⟩
      rw [Bool.true_xor]
      have hmem : kp kk ∈ kv.map (·.1) ↔ kk ∈ L := by rw [tab4.keys]; exact kp_mem
      by_cases ck : kk ∈ L
      · refine ifF (by rw [decide_eq_true (hmem.mpr ck)]; rfl) ?_
        exact ⟨_, by omega, L, T', xs', kv, _, _, _, _, _, rfl, bc4, df.old ck, htl4, pxs4, dn4, tab4, nrow, rfl, by omega⟩
      · refine ifT (by rw [decide_eq_false (fun z => ck (hmem.mp z))]; rfl) ?_
        refine ⟨(by show 0 ≤ sizeLine; decide), fun rl nrl => ?_⟩
        have s5 := same_upd (o := .lst []) nrl
        have hrl5 : (upd H4 rl (.lst [])) rl = some (.lst []) := upd_same
        have htl5 := s5 _ _ htl4
        have tab5 := tab4.same s5
        have dn5 := dn_same dn4 s5
        have pxs5 := prs_up (KpT.of s5) pxs4
        have pv5 := pv4.up (KpT.of s5)
        have bc5 : ∀ c o, c ≠ tl → c ≠ tb → H3 c = some o → (upd H4 rl (.lst [])) c = some o := fun c o h1 h2 e => s5 _ _ (bc4 c o h1 h2 e)
        have nrt : rl ≠ tl := fun z => by rw [z, htl4] at nrl; cases nrl
        have nrb : rl ≠ tb := fun z => by
          obtain ⟨es, ep, e, _⟩ := dn4
          rw [z, e] at nrl; cases nrl
        have nrow5 : ∀ e ∈ kv, e.2.2 ≠ .ref rl := fun e he z => by
          obtain ⟨j, hj⟩ := List.mem_iff_getElem?.mp he
          obtain ⟨s, _, _, _, l, xs, h3, h4, _⟩ := L2.paired_get tab4 hj
          rw [h3] at z
          cases z
          rw [nrl] at h4; cases h4
        generalize upd H4 rl (.lst []) = H5 at s5 hrl5 htl5 tab5 dn5 pxs5 pv5 bc5 ⊢
        obtain ⟨tk, rfl, htk⟩ := pv5
        refine ⟨_, rfl, (B : Int), rfl, by omega, by omega, ?_⟩
        rw [Int.toNat_natCast]
        have cm : ∀ z, CMul z (B : Int) := fun z => .inr ⟨by omega, by omega⟩
        refine for_it (walk_range (lo := 0) (n := B)) (fun i σ Hi => ∃ (y9 y10 y11 : Option V) (ys : List V), σ = [some (.int (B : Nat)), some (.ref tx), some (.ref ty), some (.int (p * q)), some (.ref st), some (.ref tb), some (.ref tl), some (.ref tk), some (.ref rl), y9, y10, y11, none] ∧ But rl H5 Hi ∧ Hi rl = some (.lst ys) ∧ Paired (IsOp Hi) ys ((List.range i).map fun (d : Nat) => Sx.step (B : Int) (p * q) (d : Int) kk)) ⟨_, _, _, [], rfl, fun c o _ e => e, hrl5, .nil⟩ (fun _ _ _ _ _ => trivial) ?_ ?_
        · rintro i u σ Ho Hi hi ⟨y9, y10, y11, ys, rfl, bi, hrl, py⟩ ⟨rfl, rfl⟩
          have ly : ys.length = i := by
            have := Paired.length py
            rwa [List.length_map, List.length_range] at this
          have cd : ∀ z, CMul (0 + (i : Int)) z := fun z => .inl ⟨by omega, by omega⟩
          have ht := bi _ _ (fun z => by rw [z, hrl5] at htk; cases htk) htk
          have ti : KpT H5 Hi := but_tup (fun xs z => by rw [hrl5] at z; cases z) bi
          refine ⟨_, rfl, tk, _, 0, _, rfl, rfl, SqT.of ht, rfl, _, rfl, _, _, rfl, rfl, cm _, _, rfl, _, rfl, _, _, rfl, rfl, cd _, _, _, rfl, rfl, ?_⟩
          refine ⟨_, rfl, tk, _, 1, _, rfl, rfl, SqT.of ht, rfl, _, rfl, _, _, rfl, rfl, cm _, _, rfl, _, rfl, _, _, rfl, rfl, cd _, _, _, rfl, rfl, ?_⟩
          dsimp only
          rw [Int.zero_add]
          generalize hb : kk.1 * (B : Int) - (i : Int) * (p * q) = bg
          generalize he : kk.2 * (B : Int) - (i : Int) * (p * q) = en
          have er : (List.range (i + 1)).map (fun (d : Nat) => Sx.step (B : Int) (p * q) (d : Int) kk) = (List.range i).map (fun (d : Nat) => Sx.step (B : Int) (p * q) (d : Int) kk) ++ [if bg > p * q ∨ en < 0 then none else some (max 0 bg, min (p * q) en)] := by
            rw [List.range_succ, List.map_append, ← hb, ← he]; rfl
          have nz : ys.length < sizeLine := by rw [ly, sizeLine_eq]; omega
          rw [er]
          have non : (bg > p * q ∨ en < 0) → ∃ (y9 y10 y11 : Option V) (ys' : List V), [some (.int (B : Nat)), some (.ref tx), some (.ref ty), some (.int (p * q)), some (.ref st), some (.ref tb), some (.ref tl), some (.ref tk), some (.ref rl), some (.int (i : Nat)), some (.int bg), some (.int en), none] = [some (.int (B : Nat)), some (.ref tx), some (.ref ty), some (.int (p * q)), some (.ref st), some (.ref tb), some (.ref tl), some (.ref tk), some (.ref rl), y9, y10, y11, none] ∧ But rl H5 (upd Hi rl (.lst (ys ++ [V.non]))) ∧ (upd Hi rl (.lst (ys ++ [V.non]))) rl = some (.lst ys') ∧ Paired (IsOp (upd Hi rl (.lst (ys ++ [V.non])))) ys' ((List.range i).map (fun (d : Nat) => Sx.step (B : Int) (p * q) (d : Int) kk) ++ [if bg > p * q ∨ en < 0 then none else some (max 0 bg, min (p * q) en)]) := fun c1 => by
            rw [if_pos c1]
            have t2 : KpT Hi (upd Hi rl (.lst (ys ++ [V.non]))) := fun c ys e => by rw [upd_ne (fun z => by rw [z, hrl] at e; cases e)]; exact e
            exact ⟨_, _, _, _, rfl, fun c o h e => by rw [upd_ne h]; exact bi _ _ h e, upd_same, paired_app (ops_up t2 py) (.cons rfl .nil)⟩
          refine ⟨_, rfl, .inl ⟨rfl, _, SqL.of hrl⟩, ?_⟩
          refine ⟨_, rfl, _, rfl, _, _, rfl, rfl, _, rfl, ?_⟩
          by_cases c1 : p * q < bg
          · exact ifT (decide_eq_true c1) (ifT rfl ⟨rl, ys, V.non, rfl, rfl, hrl, nz, non (.inl c1)⟩)
          · refine ifF (decide_eq_false c1) ⟨_, rfl, _, _, rfl, rfl, _, rfl, ?_⟩
            by_cases c2 : en < 0
            · exact ifT (decide_eq_true c2) ⟨rl, ys, V.non, rfl, rfl, hrl, nz, non (.inr c2)⟩
            · refine ifF (decide_eq_false c2) ⟨_, rfl, _, _, rfl, _, rfl, _, rfl, _, _, rfl, (by show 2 ≤ sizeLine; decide), fun tt ntt2 => ?_⟩
              have e1 : (if bg > 0 then bg else 0) = max 0 bg := by split <;> omega
              have e2' : (if en < p * q then en else p * q) = min (p * q) en := by split <;> omega
              rw [e1, e2', if_neg (show ¬ (bg > p * q ∨ en < 0) from fun z => z.elim c1 c2)]
              have st2 := same_upd (o := .tup [.int (max 0 bg), .int (min (p * q) en)]) ntt2
              have hrl2 := st2 _ _ hrl
              have ht2 : (upd Hi tt (.tup [.int (max 0 bg), .int (min (p * q) en)])) tt = some (.tup [.int (max 0 bg), .int (min (p * q) en)]) := upd_same
              refine ⟨rl, ys, _, rfl, rfl, hrl2, nz, ?_⟩
              generalize upd Hi tt (.tup [.int (max 0 bg), .int (min (p * q) en)]) = H2 at st2 hrl2 ht2 ⊢
              have t2 : KpT H2 (upd H2 rl (.lst (ys ++ [V.ref tt]))) := fun c ys e => by rw [upd_ne (fun z => by rw [z, hrl2] at e; cases e)]; exact e
              exact ⟨_, _, _, _, rfl, fun c o h e => by rw [upd_ne h]; exact st2 _ _ (bi _ _ h e), upd_same, paired_app (ops_up t2 (ops_up (KpT.of st2) py)) (.cons ⟨tt, rfl, t2 _ _ ht2⟩ .nil)⟩
        · rintro σ Hi ⟨y9, y10, y11, ys, rfl, bi, hrl, py⟩
          have py : Paired (IsOp Hi) ys (Sx.cells B (p * q) kk) := py
          have ti : KpT H5 Hi := but_tup (fun xs z => by rw [hrl5] at z; cases z) bi
          have tabI := tab5.off (fun xs z => by rw [hrl5] at z; cases z) nrow5 bi
          have dnI : DN w Hi tb kv := by
            obtain ⟨es, ep, e, r⟩ := dn5
            exact ⟨es, ep, bi _ _ nrb.symm e, r.up ti⟩
          have htlI := bi _ _ nrt.symm htl5
          have pxsI := prs_up ti pxs5
          have pkI : IsPr Hi (.ref tk) kk := ⟨tk, rfl, ti _ _ htk⟩
          have bcI : ∀ c o, c ≠ tl → c ≠ tb → H3 c = some o → Hi c = some o := fun c o h1 h2 e => bi _ _ (fun z => by rw [← z] at nrl; rw [bc4 c o h1 h2 e] at nrl; cases nrl) (bc5 c o h1 h2 e)
          refine ⟨_, rfl, _, rfl, _, rfl, tb, kp kk, rfl, keyv_pr pkI, kp_depth kk, .inr ⟨kv, dnI, by rw [sizeLine_eq]; omega, fun H6 f6 D6 => ?_⟩⟩
          rw [putN_new (fun z => ck (hmem.mp z))] at D6
          have n6 : ∃ es ep, Hi tb = some (rawO tb es ep) := let ⟨es, ep, e, _⟩ := dnI; ⟨es, ep, e⟩
          obtain ⟨es6, ep6, n6⟩ := n6
          have b6 : But tb Hi H6 := fun c o h e => by rw [f6 c h]; exact e
          have t6 : KpT Hi H6 := but_tup (fun xs z => by rw [n6] at z; cases z) b6
          have tab6 := tabI.but (fun xs z => by rw [n6] at z; cases z) (fun xs z => by rw [n6] at z; cases z) b6
          have hrl6 := b6 _ _ nrb hrl
          have htl6 := b6 _ _ ntt.symm htlI
          have py6 := ops_up t6 py
          have tabN : TabL H6 (Sx.cells B (p * q)) (kv ++ [(kp kk, .ref tk, .ref rl)]) (L ++ [kk]) := paired_app tab6 (.cons ⟨rfl, pkI.up t6, rl, ys, rfl, hrl6, py6⟩ .nil)
          have pxs6 := prs_up t6 pxsI
          have bc6 : ∀ c o, c ≠ tl → c ≠ tb → H3 c = some o → H6 c = some o := fun c o h1 h2 e => b6 _ _ h2 (bcI c o h1 h2 e)
          have lys : ys.length = B := (Paired.length py).trans (cells_len _ _ _)
          have lxs' : xs'.length = T'.length := Paired.length pxs6
          refine ⟨_, rfl, .inl ⟨rfl, _, SqL.of htl6⟩, _, rfl, rl, rfl, ⟨_, SqL.of hrl6⟩, fun D nD => lc_it (walk_list (K := K) (a := rl) (xs := ys)) (fun i Hx => Same H6 Hx ∧ ∃ us : List V, Hx D = some (.lst us) ∧ us.length ≤ i ∧ Paired (IsPr Hx) us (((Sx.cells B (p * q) kk).take i).filterMap id)) ⟨same_upd nD, [], upd_same, Nat.zero_le _, .nil⟩ (fun i Hx _ z => SqL.of (z.1 _ _ hrl6)) (fun i u Ha Hb hi pr yy => ?_) fun H7 pr => ?_⟩
          · obtain ⟨sa, us, hD, lu, pu⟩ := pr
            obtain ⟨rfl, hv⟩ := yy
            obtain ⟨o, ho, io⟩ := L2.paired_get py6 hv
            have tke : (Sx.cells B (p * q) kk).take (i + 1) = (Sx.cells B (p * q) kk).take i ++ [o] := by rw [List.take_add_one, ho]; rfl
            rw [tke, List.filterMap_append]
            refine ⟨rfl, ⟨_, rfl, rfl, _, rfl, ?_⟩⟩
            cases o with
            | none =>
              cases (show u = V.non from io)
              refine ifF (by simp) ⟨sa, us, hD, by omega, ?_⟩
              rw [show List.filterMap id [(none : Option Sx.St)] = [] from rfl, List.append_nil]
              exact pu
            | some z =>
              have iu : IsPr Hb u z := IsPr.up (KpT.of sa) io
              have un : u ≠ V.non := fun e => by
                obtain ⟨tt, e2, _⟩ := iu
                rw [e] at e2; cases e2
              refine ifT (by rw [decide_eq_false un]; rfl) ⟨_, rfl, us, hD, by rw [sizeLine_eq]; omega, ?_⟩
              have t7 : KpT Hb (upd Hb D (.lst (us ++ [u]))) := fun c ys e => by rw [upd_ne (fun z => by rw [z, hD] at e; cases e)]; exact e
              refine ⟨fun c o e => ?_, us ++ [u], upd_same, by rw [List.length_append]; exact Nat.succ_le_succ lu, paired_app (prs_up t7 pu) (.cons (iu.up t7) .nil)⟩
              rw [upd_ne (fun z => by rw [z, nD] at e; cases e)]; exact sa _ _ e
          · obtain ⟨s7, us, hD, lu, pu⟩ := pr
            rw [List.take_of_length_le (by rw [cells_len, lys]; exact Nat.le_refl _)] at pu
            rw [lys] at lu
            have htl7 := s7 _ _ htl6
            have lus : us.length = ((Sx.cells B (p * q) kk).filterMap id).length := Paired.length pu
            have lfm := List.length_filterMap_le id (Sx.cells B (p * q) kk)
            rw [cells_len] at lfm
            refine ⟨tl, D, xs', us, rfl, rfl, htl7, hD, by rw [sizeLine_eq]; omega, ?_⟩
            have b8 : But tl H7 (upd H7 tl (.lst (xs' ++ us))) := But.upd
            have t8 : KpT H7 (upd H7 tl (.lst (xs' ++ us))) := but_tup (fun xs z => by rw [htl7] at z; cases z) b8
            have nrowN : ∀ e ∈ kv ++ [(kp kk, V.ref tk, V.ref rl)], e.2.2 ≠ .ref tl := fun e he z => by
              rcases List.mem_append.mp he with h | h
              · exact nrow e h z
              · rw [List.mem_singleton.mp h] at z
                injection z with z
                exact nrt z
            have dfN := df.new ck (fun s x hs hx => LD.step p0 q0 s x hs hx)
            have lLN := LD.le EO dfN.nd fun z hz => dfN.al z (.inl hz)
            rw [List.length_append, List.length_singleton] at lLN
            refine ⟨_, ?_, L ++ [kk], T' ++ (Sx.cells B (p * q) kk).filterMap id, xs' ++ us, kv ++ [(kp kk, .ref tk, .ref rl)], _, _, _, _, _, rfl, fun c o h1 h2 e => ?_, dfN, upd_same, paired_app (prs_up t8 (prs_up (KpT.of s7) pxs6)) (prs_up t8 pu), ?_, ?_, nrowN, rfl, ?_⟩
            · rw [List.length_append, List.length_append, List.length_singleton]; omega
            · rw [upd_ne h1]; exact s7 _ _ (bc6 c o h1 h2 e)
            · obtain ⟨es, ep, e, r⟩ := dn_same D6 s7
              exact ⟨es, ep, by rw [upd_ne ntt]; exact e, r.up t8⟩
            · exact (tabN.same s7).off (fun xs z => by rw [htl7] at z; cases z) nrowN b8
            · rw [List.length_append, List.length_append, List.length_singleton]; omega
end
end My

set_option linter.all false
namespace My
open PySem PySem.Spec PyProof.Rows L2
/-! ### _law_in: a point along its digits -/
abbrev sLIn : Stmt := topS 26
theorem pos_at {α : Type} [DecidableEq α] {l : List α} {x : α} (h : x ∈ l) : l[Mo.pos l x]? = some x := by
  have h1 := Mo.pos_lt h
  rw [List.getElem?_eq_getElem h1]
  exact congrArg some (List.getElem_idxOf h1)
theorem run_head {cells : Sx.St → List (Option Sx.St)} {first : Sx.St} : ∀ n, ∃ more, (Bf.run cells first n).1 = first :: more
  | 0 => ⟨[], rfl⟩
  | n + 1 => by
    obtain ⟨more, e⟩ := run_head (cells := cells) (first := first) n
    unfold Bf.run
    cases h : (Bf.run cells first n).1[n]? with
    | none => exact ⟨more, e⟩
    | some k =>
      obtain ⟨m2, e2⟩ := Bf.add_app (cells k) (Bf.run cells first n).1
      dsimp only
      rw [e2, e]
      exact ⟨more ++ m2, rfl⟩
/-- what has been seen behind j digits -/
def seenL (B W m : Int) (s0 : Sx.St) (n0 : Int) (Ks : List Sx.St) (j : Nat) : List Sx.St := (List.range j).map fun i => (((Mo.pos Ks ((Sx.walk B W m s0 n0 i).1.getD s0) : Nat) : Int), (Sx.walk B W m s0 n0 i).2)
def cellV (Ks : List Sx.St) : Option Sx.St → V
  | none => .non
  | some t => .int ((Mo.pos Ks t : Nat) : Int)
structure TgI (mg : Str → Option Value) : Prop where
  min : mg "min" = none
section
variable {P : Program} {w : World} {K : PySem.W.Frag} {mg : Str → Option Value} {base : Heap}
theorem scIn : FnScope ["dust", "fraction", "base", "rows", "top", "whole", "cell", "seen", "digit"] ["dust", "fraction"] (defScope sLIn) := ⟨rfl, rfl, rfl, by decide +kernel, rfl, by decide +kernel, by decide +kernel⟩
def spLIn : Sp := fun vs H Q _ => ∃ (B : Nat) (t r : Addr) (xs : List V) (y : V) (n0 m W : Int) (s0 : Sx.St) (n : Nat), vs = [.ref t, y] ∧ H t = some (.tup [.int (B : Nat), .ref r]) ∧ H r = some (.tup xs) ∧ IsPr H y (n0, m) ∧ 2 ≤ B ∧ B ≤ 10 ∧ 0 < W ∧ Sx.Al W s0 ∧ 0 ≤ n0 ∧ n0 ≤ m ∧ 0 < m ∧ m ≤ 300 ∧ n ≤ 5000 ∧ (Bf.run (Sx.cells B W) s0 n).1.length = n ∧ Paired (IsRow H) xs (Bf.run (Sx.cells B W) s0 n).2 ∧
  ∀ (b : Bool) (H' : Hp), Same H H' → (b = true ↔ Sx.Ins W n0 m s0) → Q (.bl b) H'
set_option maxHeartbeats 1000000 in
theorem ok_in {f : Addr} {fd : FuncData} (F : Fun K "_law_in" "_law_in" sLIn f fd) (T : TgI mg) : FnOk P w K mg base CX0 1 f fd ["dust", "fraction"] spLIn := by
  refine F.ok scIn (fun vs H Q E h => ?_) (fun cdv A outer h0 H vs Q E hr h => ?_)
  · obtain ⟨B, t, r, xs, y, n0, m, W, s0, n, rfl, _⟩ := h
    rfl
  · obtain ⟨B, t, r, xs, y, n0, m, W, s0, n, rfl, ht, hr_, ⟨ty, rfl, hy⟩, b0, b1, hW, al, n00, n01, m0, m1, n5, hn, pr, k⟩ := h
    have hu9 := Nat.lt_trans (Nat.add_lt_add_left (show 9 < 64 by decide) _) hr.units
    have lxs : xs.length = n := by
      have := (Bf.run_len (cells := Sx.cells B W) (first := s0) n (by omega)).1
      exact (Paired.length pr).trans this
    obtain ⟨_, ndK⟩ := Bf.run_len (cells := Sx.cells B W) (first := s0) n (by omega)
    have rat := Bf.run_at (cells := Sx.cells B W) (first := s0) n (by omega)
    obtain ⟨more, hd⟩ := run_head (cells := Sx.cells B W) (first := s0) n
    have s0K : s0 ∈ (Bf.run (Sx.cells B W) s0 n).1 := by rw [hd]; exact List.mem_cons_self
    have s0P : Mo.pos (Bf.run (Sx.cells B W) s0 n).1 s0 = 0 := by rw [hd, pos_cons, if_pos rfl]
    clear hd
    have n1 : 0 < n := by have := List.length_pos_of_mem s0K; omega
    generalize hKs : (Bf.run (Sx.cells B W) s0 n).1 = Ks at *
    have hB : (2 : Int) ≤ (B : Int) := by omega
    refine ⟨_, (pss_cons (ps_asg (pv 0) (pg_tup (by rfl) (pgs_cons (pg_name (i := 2) scIn.nd rfl (Or.inl rfl)) (pgs_cons (pg_name (i := 3) scIn.nd rfl (Or.inl rfl)) pgs_nil))))
      (pss_cons (ps_asg (pv 1) (pg_tup (by rfl) (pgs_cons (pg_name (i := 4) scIn.nd rfl (Or.inl rfl)) (pgs_cons (pg_name (i := 5) scIn.nd rfl (Or.inl rfl)) pgs_nil))))
      (pss_cons (ps_set (i := 6) scIn.nd rfl (Or.inl rfl) (pe_ifExp (pt_cmpR (op_neNilT hr.units) (pv 3) (pe_tup pa_nil) (nomark _)) pe_int pe_non))
      (pss_cons (ps_set (i := 7) scIn.nd rfl (Or.inl rfl) pe_dnewN)
      (pss_cons (ps_while PassesOwn.never (PW.pt (pw_and (pt_cmpR op_notN (pv 6) pe_non (nomark _)) (pw_and1 (pt_cmpR (op_notInR hu9) (pe_tup (pa_cons (pv 6) (pa_cons (pv 4) pa_nil))) (pv 7) (by rfl))))) (pss_cons (ps_asg pe_bl (pg_sub (pv 7) (pe_tup (pa_cons (pv 6) (pa_cons (pv 4) pa_nil))) (set_any hu9)))
      (pss_cons (ps_set (i := 8) scIn.nd rfl (Or.inl rfl) (pe_callB (call_min2 rfl) (by rfl) T.min boot_min (pa_cons (pe_op op_sub (pv 2) pe_int) (pa_cons (pe_op op_fdivW (pe_op op_mul (pv 4) (pv 2)) (pv 5)) pa_nil))))
      (pss_cons (ps_set (i := 4) scIn.nd rfl (Or.inl rfl) (pe_op op_sub (pe_op op_mul (pv 4) (pv 2)) (pe_op op_mul (pv 8) (pv 5))))
      (pss_one (ps_set (i := 6) scIn.nd rfl (Or.inl rfl) (pe_ix ix_tup (pe_ix ix_tup (pv 3) (pv 6) (fun _ _ => rfl)) (pv 8) (fun _ _ => rfl))))))))
      (pss_one (ps_ret (pe_cmpR op_notN (pv 6) pe_non (nomark _))))))))), ?_⟩
    refine ⟨_, rfl, t, _, rfl, SqT.of ht, rfl, _, _, rfl, _, _, rfl, rfl, ?_⟩
    refine ⟨_, rfl, ty, _, rfl, SqT.of hy, rfl, _, _, rfl, _, _, rfl, rfl, ?_⟩
    refine ⟨_, rfl, (by show 0 ≤ sizeLine; decide), fun Z nZ => ?_⟩
    have sZ := same_upd (o := .tup []) nZ
    refine ⟨r, Z, xs, rfl, rfl, SqT.of (sZ _ _ hr_), SqT.of upd_same, _, rfl, ?_⟩
    have xne : xs.isEmpty = false := by
      cases xs with
      | nil => rw [List.length_nil] at lxs; omega
      | cons _ _ => rfl
    refine ifT (by rw [xne]; rfl) ?_
    refine fun sn nsn => ?_
    have s2 := same_upd (o := rawO sn #[] 0) nsn
    have sH2 := sZ.trans s2
    have D2 : DN w (upd (upd H Z (.tup [])) sn (rawO sn #[] 0)) sn [] := dn_new
    have nHs : H sn = none := by
      cases e : H sn with
      | none => rfl
      | some o => rw [sZ _ _ e] at nsn; cases nsn
    generalize upd (upd H Z (.tup [])) sn (rawO sn #[] 0) = H2 at sH2 D2 ⊢
    have pt := fun j => Sx.walk_pt (B := (B : Int)) (w := W) (m := m) (s := s0) hB m0 n00 n01 j
    have bound : ∀ j, (∀ i, i < j → ∃ u, (Sx.walk (B : Int) W m s0 n0 i).1 = some u ∧ u ∈ Ks) → (seenL (B : Int) W m s0 n0 Ks j).Nodup → j ≤ 5001 * 301 := fun j hs nd => by
      have := Bf.nd_le (C := Sx.box 5000 300) nd fun z hz => by
        unfold seenL at hz
        obtain ⟨i, hi, rfl⟩ := List.mem_map.mp hz
        obtain ⟨u, hu, uK⟩ := hs i (List.mem_range.mp hi)
        obtain ⟨p1, p2⟩ := pt i
        have := Mo.pos_lt uK
        refine Sx.box_mem ?_
        dsimp only
        rw [hu]
        dsimp only [Option.getD]
        omega
      rw [Sx.box_len] at this
      unfold seenL at this
      rwa [List.length_map, List.length_range] at this
    refine ⟨fun μ σ Hc => ∃ (j : Nat) (kvs : List Kvv) (y8 : Option V), σ = [some (.ref t), some (.ref ty), some (.int (B : Nat)), some (.ref r), some (.int (Sx.walk (B : Int) W m s0 n0 j).2), some (.int m), some (cellV Ks (Sx.walk (B : Int) W m s0 n0 j).1), some (.ref sn), y8] ∧ Same H Hc ∧ DN w Hc sn kvs ∧ kvs.map (·.1) = (seenL (B : Int) W m s0 n0 Ks j).map kp ∧ (seenL (B : Int) W m s0 n0 Ks j).Nodup ∧ (∀ i, i < j → ∃ u, (Sx.walk (B : Int) W m s0 n0 i).1 = some u ∧ u ∈ Ks) ∧ (∀ u, (Sx.walk (B : Int) W m s0 n0 j).1 = some u → u ∈ Ks) ∧ μ = 5001 * 301 + 1 - j, ⟨_, 0, [], none, ?_, sH2, D2, rfl, List.nodup_nil, (fun i hi => absurd hi (Nat.not_lt_zero _)), (fun u hu => by cases hu; exact s0K), rfl⟩, ?_⟩
    · show _ = [some (V.ref t), some (V.ref ty), some (V.int (B : Nat)), some (V.ref r), some (V.int n0), some (V.int m), some (V.int ((Mo.pos Ks s0 : Nat) : Int)), some (V.ref sn), none]
      rw [s0P]; rfl
    rintro μ σ Hc ⟨j, kvs, y8, rfl, sc, dn, ek, nd, before, now, rfl⟩
    have jb := bound j before nd
    have lkv : kvs.length = j := by
      have := congrArg List.length ek
      unfold seenL at this
      rwa [List.length_map, List.length_map, List.length_map, List.length_range] at this
    refine ⟨_, rfl, rfl, _, rfl, ?_⟩
    cases hw : (Sx.walk (B : Int) W m s0 n0 j).1 with
    | none =>
      refine ifF (by simp [cellV]) (ifF rfl ?_)
      refine ⟨_, rfl, rfl, k false Hc sc ⟨fun z => (nomatch z), fun ins => ?_⟩⟩
      obtain ⟨u, e, _⟩ := Sx.walk_in hB hW m0 n00 n01 ins j
      rw [hw] at e; cases e
    | some u =>
      have uK := now u hw
      refine ifT (by simp [cellV]) ?_
      refine ⟨_, rfl, _, rfl, (by show 2 ≤ sizeLine; decide), fun tc ntc => ?_⟩
      have s3 := same_upd (o := .tup [cellV Ks (some u), .int (Sx.walk (B : Int) W m s0 n0 j).2]) ntc
      have kv3 : KeyV (upd Hc tc (.tup [cellV Ks (some u), .int (Sx.walk (B : Int) W m s0 n0 j).2])) (kp (((Mo.pos Ks u : Nat) : Int), (Sx.walk (B : Int) W m s0 n0 j).2)) (.ref tc) := .tup upd_same (.cons (.int _) (.cons (.int _) .nil))
      have dn3 := dn_same dn s3
      have sc3 := sc.trans s3
      generalize upd Hc tc (.tup [cellV Ks (some u), .int (Sx.walk (B : Int) W m s0 n0 j).2]) = H3 at s3 kv3 dn3 sc3 ⊢
      refine ⟨_, rfl, sn, kvs, _, rfl, .inl dn3, kv3, kp_depth _, _, rfl, ?_⟩
      rw [Bool.true_xor, ek]
      by_cases c : (((Mo.pos Ks u : Nat) : Int), (Sx.walk (B : Int) W m s0 n0 j).2) ∈ seenL (B : Int) W m s0 n0 Ks j
      · refine ifF (by rw [decide_eq_true (kp_mem.mpr c)]; rfl) ?_
        refine ⟨_, rfl, rfl, k _ H3 sc3 ⟨fun _ => ?_, fun _ => by simp [cellV]⟩⟩
        unfold seenL at c
        obtain ⟨i, hi, e⟩ := List.mem_map.mp c
        have hi := List.mem_range.mp hi
        obtain ⟨u', hu', uK'⟩ := before i hi
        injection e with e1 e2
        rw [hu'] at e1
        have eu : u' = u := Mo.pos_inj uK' (by dsimp only [Option.getD] at e1; omega)
        subst eu
        exact Sx.walk_same hB hW m0 n00 n01 hi hw hu' e2.symm
      · refine ifT (by rw [decide_eq_false (fun z => c (kp_mem.mp z))]; rfl) ⟨_, fun σ' H' h => h, ?_⟩
        have nm : kp (((Mo.pos Ks u : Nat) : Int), (Sx.walk (B : Int) W m s0 n0 j).2) ∉ kvs.map (·.1) := by rw [ek]; exact fun z => c (kp_mem.mp z)
        have seen1 : seenL (B : Int) W m s0 n0 Ks (j + 1) = seenL (B : Int) W m s0 n0 Ks j ++ [(((Mo.pos Ks u : Nat) : Int), (Sx.walk (B : Int) W m s0 n0 j).2)] := by
          unfold seenL
          rw [List.range_succ, List.map_append, List.map_cons, List.map_nil, hw]; rfl
        have nd1 : (seenL (B : Int) W m s0 n0 Ks (j + 1)).Nodup := by
          rw [seen1]
          exact List.nodup_append.mpr ⟨nd, by simp, fun x hx y hy e => c (by rw [← List.mem_singleton.mp hy, ← e]; exact hx)⟩
        have before1 : ∀ i, i < j + 1 → ∃ u, (Sx.walk (B : Int) W m s0 n0 i).1 = some u ∧ u ∈ Ks := fun i hi => by
          rcases Nat.lt_or_ge i j with h | h
          · exact before i h
          · rw [show i = j by omega]
            exact ⟨u, hw, uK⟩
        have jb1 := bound (j + 1) before1 nd1
        refine ⟨_, rfl, _, rfl, _, rfl, (by show 2 ≤ sizeLine; decide), fun t2 nt2 => ?_⟩
        have s4 := same_upd (o := .tup [cellV Ks (some u), .int (Sx.walk (B : Int) W m s0 n0 j).2]) nt2
        have kv4 : KeyV (upd H3 t2 (.tup [cellV Ks (some u), .int (Sx.walk (B : Int) W m s0 n0 j).2])) (kp (((Mo.pos Ks u : Nat) : Int), (Sx.walk (B : Int) W m s0 n0 j).2)) (.ref t2) := .tup upd_same (.cons (.int _) (.cons (.int _) .nil))
        have dn4 := dn_same dn3 s4
        have sc4 := sc3.trans s4
        generalize upd H3 t2 (.tup [cellV Ks (some u), .int (Sx.walk (B : Int) W m s0 n0 j).2]) = H4 at s4 kv4 dn4 sc4 ⊢
        refine ⟨sn, _, rfl, kv4, kp_depth _, .inr ⟨kvs, dn4, by rw [sizeLine_eq]; omega, fun H5 f5 D5 => ?_⟩⟩
        rw [putN_new nm] at D5
        have sc5 : Same H H5 := fun a o e => by rw [f5 a (fun z => by rw [z, nHs] at e; cases e)]; exact sc4 _ _ e
        obtain ⟨p1, p2⟩ := pt j
        have nx := Sx.walk_next (B := (B : Int)) (w := W) (m := m) (s := s0) (n := n0) hw
        obtain ⟨g1, g2, g3, g4⟩ := Sx.digit_min (n := (Sx.walk (B : Int) W m s0 n0 j).2) hB m0 p1 p2
        have edig : (if (Sx.walk (B : Int) W m s0 n0 j).2 * (B : Int) / m < (B : Int) - 1 then (Sx.walk (B : Int) W m s0 n0 j).2 * (B : Int) / m else (B : Int) - 1) = min ((B : Int) - 1) ((Sx.walk (B : Int) W m s0 n0 j).2 * (B : Int) / m) := by split <;> omega
        have cm : ∀ z, CMul z (B : Int) := fun z => .inr ⟨by omega, by omega⟩
        refine ⟨_, rfl, _, _, rfl, rfl, _, rfl, _, rfl, _, _, rfl, rfl, cm _, _, rfl, _, _, rfl, rfl, ?_, _, _, rfl, ?_⟩
        · refine ⟨m0, ?_⟩
          have : m.natAbs ≤ 300 := by omega
          exact Nat.lt_of_le_of_lt (Nat.log2_le_self _) (by omega)
        rw [edig]
        generalize hdg : min ((B : Int) - 1) ((Sx.walk (B : Int) W m s0 n0 j).2 * (B : Int) / m) = dg at *
        obtain ⟨dn', rfl⟩ : ∃ z : Nat, dg = (z : Int) := ⟨dg.toNat, by omega⟩
        refine ⟨_, rfl, _, rfl, _, _, rfl, rfl, cm _, _, rfl, _, rfl, _, _, rfl, rfl, .inl ⟨by omega, by omega⟩, _, _, rfl, rfl, ?_⟩
        -- the row
        have hpos := pos_at uK
        have plt := Mo.pos_lt uK
        rw [hn] at plt
        obtain ⟨r1, r2⟩ := rat (Mo.pos Ks u) u plt hpos
        obtain ⟨x, hx, tr, rfl, htr⟩ : ∃ x, xs[Mo.pos Ks u]? = some x ∧ IsRow H x (Bf.row Ks (Sx.cells B W u)) := by
          have h1 : Mo.pos Ks u < xs.length := by omega
          obtain ⟨b, e1, e2⟩ := L2.paired_get pr (List.getElem?_eq_getElem h1)
          rw [r1] at e1
          cases e1
          exact ⟨_, List.getElem?_eq_getElem h1, e2⟩
        have hdig : ((Bf.row Ks (Sx.cells B W u)).map nV)[dn']? = some (cellV Ks (Sx.step (B : Int) W (dn' : Int) u)) := by
          unfold Bf.row
          rw [List.getElem?_map, List.getElem?_map, Sx.cells_at (show dn' < B by omega)]
          cases Sx.step (B : Int) W (dn' : Int) u <;> rfl
        refine ⟨_, rfl, _, rfl, r, xs, ((Mo.pos Ks u : Nat) : Int), _, rfl, rfl, SqT.of (sc5 _ _ hr_), atI_nat hx, _, rfl, tr, _, ((dn' : Nat) : Int), _, rfl, rfl, SqT.of (sc5 _ _ htr), atI_nat hdig, ?_⟩
        refine ⟨5001 * 301 + 1 - (j + 1), by omega, j + 1, kvs ++ [(kp (((Mo.pos Ks u : Nat) : Int), (Sx.walk (B : Int) W m s0 n0 j).2), V.ref t2, V.bl true)], some (V.int ((dn' : Nat) : Int)), ?_, sc5, D5, ?_, nd1, before1, fun u' hu' => ?_, rfl⟩
        · rw [nx]; rfl
        · rw [List.map_append, ek, seen1, List.map_append]; rfl
        · rw [nx] at hu'
          have hu' : Sx.step (B : Int) W (dn' : Int) u = some u' := hu'
          exact r2 u' (List.mem_of_getElem? ((Sx.cells_at (show dn' < B by omega)).trans (congrArg some hu')))
end
end My

set_option linter.all false
namespace My
open PySem PySem.Spec PyProof.Rows L2 NdefX LamX
/-! ### _law_told: told, or refused -/
abbrev sTold22 : Stmt := topS 29
def rIsKT (K : PySem.W.Frag) : List V → Hp → VK → Prop := fun xs H Q => ∃ (a D : Addr) (d : Option Addr) (tp : Addr) (cs : List V) (us : List Value) (b : Bool), xs = [.ref a, .ref tp] ∧ ExI K D ∧ IsX H a D d ∧ HasD H d ∧ H tp = some (.tup cs) ∧ Paired ClsV cs us ∧ PySem.W.kitAny K (.ref D) us = some b ∧ Q (.bl b) H
section
variable {X : Cx}
theorem call_isKT : CallR X (.builtin "isinstance") (rIsKT X.K) := by
  intro pins s σ H xs us Q I r h
  obtain ⟨a, D, d, tp, cs, ws, b, rfl, T, hx, hd, hT, kk, e, q⟩ := h
  cases r with
  | cons r1 rr =>
    cases rr with
    | cons r2 rr =>
      cases rr
      cases r1
      rename_i u2
      cases (show u2 = Value.ref tp from r2)
      obtain ⟨ob, od, J⟩ := inst_at I hx hd
      obtain ⟨_, its, rv, o, h1, h2, n, h3⟩ := (show ObjOk X.prog X.w H s.heap tp (.tup cs) from I.hok tp _ hT)
      have e3 := ClsV.all kk rv
      subst e3
      obtain ⟨oc, od', dt, sl⟩ := o
      simp only at h2 h3
      subst h2 h3
      exact PySem.W.kia_tup (PySem.W.kitx_exc T.cl T.hg T.hk T.hs T.ha T.hn T.ht T.hm) I.kIn J h1 e (fun z => nomatch z) fun tk => ⟨.bl b, H, I.kept (t' := tk) fun _ _ z => z, rfl, q⟩
end
structure ClS (K : PySem.W.Frag) (mg : Str → Option Value) (cs : List Addr) (D C : Addr) : Prop where
  mD : mg "DustError" = some (.ref D)
  mC : mg "NoStretch" = some (.ref C)
  m0 : mg "Full" = some (.ref (cs.getD 0 0))
  m1 : mg "Held" = some (.ref (cs.getD 1 0))
  m2 : mg "NoBase" = some (.ref (cs.getD 2 0))
  m3 : mg "NoForm" = some (.ref (cs.getD 3 0))
  m4 : mg "NoName" = some (.ref (cs.getD 4 0))
  m5 : mg "NoRow" = some (.ref (cs.getD 5 0))
  m6 : mg "NoText" = some (.ref (cs.getD 6 0))
  m7 : mg "NoWay" = some (.ref (cs.getD 7 0))
  m8 : mg "Ring" = some (.ref (cs.getD 8 0))
  m9 : mg "TooMany" = some (.ref (cs.getD 9 0))
  exm : PySem.W.exmOne K (.ref C) (.ref D) = some true
  ex : ExI K C
  kW : PySem.W.kitOne K (.ref C) (.ref C) = some true
  kV : PySem.W.kitOne K (.ref C) (.type "ValueError") = some true
  kO : PySem.W.kitAny K (.ref C) [.ref (cs.getD 0 0), .ref (cs.getD 1 0), .ref (cs.getD 2 0), .ref (cs.getD 3 0), .ref (cs.getD 4 0), .ref (cs.getD 5 0), .ref (cs.getD 6 0), .ref (cs.getD 7 0), .ref (cs.getD 8 0), .ref (cs.getD 9 0)] = some false
structure TgT (mg : Str → Option Value) : Prop where
  isi : mg "isinstance" = none
  verr : mg "ValueError" = none
def spTold22 (Pt : Addr) : Sp := fun vs H Q _ => ∃ (B : Nat) (x y : V) (a p b q : Int), vs = [.int (B : Nat), x, y] ∧ IsPr H x (a, p) ∧ IsPr H y (b, q) ∧ EndsOk B a p b q ∧ TabsN (tabC Pt) H ∧ (b * p < a * q → ∀ H', Same H H' → Q (.str "refused") H') ∧
  (a * q ≤ b * p → ∀ (n : Nat) (t r : Addr) (xs : List V) (H' : Hp), (Bf.run (Sx.pcells B p q) (a, b) n).1.length = n → ExtN H H' → TabsN (tabC Pt) H' → H' t = some (.tup [.int (B : Nat), .ref r]) → H' r = some (.tup xs) → Paired (IsRow H') xs (Bf.run (Sx.pcells B p q) (a, b) n).2 → Q (.ref t) H')
section
variable {P : Program} {w : World} {K : PySem.W.Frag} {mg : Str → Option Value} {base : Heap}
theorem scTd : FnScope ["base", "low", "high", "found", "caught", "e", "others"] ["base", "low", "high"] (defScope sTold22) := ⟨rfl, rfl, rfl, by decide +kernel, rfl, by decide +kernel, by decide +kernel⟩
theorem ok_told22 {C D Pt f fSt : Addr} {cs : List Addr} {fd fdSt : FuncData} (F : Fun K "_law_told" "_law_told" sTold22 f fd) (T : TgT mg) (M : ClS K mg cs D C)
    (FSt : Fun K "stretch" "stretch" sStretch fSt fdSt) (GSt : FnOk P w K mg base (L2.CX P w) 3 fSt fdSt ["base", "low", "high"] (spSt C Pt)) (bSt : Binds K fdSt ["base", "low", "high"] []) (gSt : mg "stretch" = some (.ref fSt)) :
    FnOk P w K mg base CX0 4 f fd ["base", "low", "high"] (spTold22 Pt) := by
  refine F.ok scTd (fun vs H Q E h => ?_) (fun cdv A outer h0 H vs Q E hr h => ?_)
  · obtain ⟨B, x, y, a, p, b, q, rfl, _⟩ := h
    rfl
  · obtain ⟨B, x, y, a, p, b, q, rfl, hx, hy, EO, TT, kn, ky⟩ := h
    have hr3 := hr
    refine ⟨_, (pss_cons (ps_set (i := 3) scTd.nd rfl (Or.inl rfl) pe_non)
      (pss_cons (ps_set (i := 4) scTd.nd rfl (Or.inl rfl) pe_non)
      (pss_cons (ps_try_keep (i := 5) rfl rfl rfl scTd.nd rfl (by rfl) ⟨by rfl, by decide, .inl M.mD⟩
        (fun W pl xe tk ps => pss_one (ps_set (i := 3) scTd.nd rfl (Or.inl rfl) (pe_callS (E := L2.WE W) GSt hr3 (by rfl) gSt FSt.kp bSt (L2.passAt tk) (pa_cons (pv 0) (pa_cons (pv 1) (pa_cons (pv 2) pa_nil))))))
        (fun a ob cls d pl z q => pss_one (ps_set (i := 4) scTd.nd rfl (Or.inl rfl) (pv 5))))
      (pss_cons (ps_if (pt_cmpR op_isN (pv 4) pe_non (nomark _)) (pss_one (ps_ret (pv 3))) pss_nil)
      (pss_cons (ps_set (i := 6) scTd.nd rfl (Or.inl rfl) (pe_callB call_isKT (by rfl) T.isi boot_isinstance (pa_cons (pv 4) (pa_cons (pe_tup (pa_cons (pe_glob (v := .ref (cs.getD 0 0)) (by rfl) M.m0 rfl) (pa_cons (pe_glob (v := .ref (cs.getD 1 0)) (by rfl) M.m1 rfl) (pa_cons (pe_glob (v := .ref (cs.getD 2 0)) (by rfl) M.m2 rfl) (pa_cons (pe_glob (v := .ref (cs.getD 3 0)) (by rfl) M.m3 rfl) (pa_cons (pe_glob (v := .ref (cs.getD 4 0)) (by rfl) M.m4 rfl) (pa_cons (pe_glob (v := .ref (cs.getD 5 0)) (by rfl) M.m5 rfl) (pa_cons (pe_glob (v := .ref (cs.getD 6 0)) (by rfl) M.m6 rfl) (pa_cons (pe_glob (v := .ref (cs.getD 7 0)) (by rfl) M.m7 rfl) (pa_cons (pe_glob (v := .ref (cs.getD 8 0)) (by rfl) M.m8 rfl) (pa_cons (pe_glob (v := .ref (cs.getD 9 0)) (by rfl) M.m9 rfl) pa_nil))))))))))) pa_nil))))
      (pss_one (ps_ret (pe_ifExp (PW.pt (pw_and (pt_val (pe_callB call_isK (by rfl) T.isi boot_isinstance (pa_cons (pv 4) (pa_cons (pe_glob (v := .ref C) (by rfl) M.mC rfl) pa_nil)))) (pw_and (pt_not (pt_val (pv 6))) (pw_and1 (pt_val (pe_callB call_isK (by rfl) T.isi boot_isinstance (pa_cons (pv 4) (pa_cons (pe_bltn (v := .ty "ValueError") (by rfl) T.verr PyProof.Rows.Boot.«ValueError» rfl) pa_nil)))))))) pe_str pe_str)))))))), ?_⟩
    refine ⟨_, rfl, _, rfl, _, rfl, B, x, y, a, p, b, q, rfl, hx, hy, EO, TT, fun lt H2 s2 => ⟨M.exm, fun a na => ?_⟩, fun le n t r xs H2 hn e2 T2 ht hr' pr => ?_⟩
    · have s3 : Same H2 (upd H2 a (ExK (.ref C) none a)) := Same.upd na
      have hx : (upd H2 a (ExK (.ref C) none a)) a = some (ExK (.ref C) none a) := upd_same
      have s13 := s2.trans s3
      refine ⟨_, rfl, ?_⟩
      refine ⟨_, rfl, rfl, _, rfl, ifF (by rfl) ?_⟩
      refine ⟨_, rfl, by show 10 ≤ sizeLine; decide, fun t5 nt5 => ?_⟩
      generalize upd H2 a (ExK (.ref C) none a) = H3 at s3 hx s13 nt5
      have s5 := Same.upd nt5 (o := .tup [V.ref (cs.getD 0 0), V.ref (cs.getD 1 0), V.ref (cs.getD 2 0), V.ref (cs.getD 3 0), V.ref (cs.getD 4 0), V.ref (cs.getD 5 0), V.ref (cs.getD 6 0), V.ref (cs.getD 7 0), V.ref (cs.getD 8 0), V.ref (cs.getD 9 0)])
      refine ⟨a, C, none, t5, _, _, false, rfl, M.ex, .inr (.inl (s5 _ _ hx)), hasD_none, upd_same, .cons (.own _) (.cons (.own _) (.cons (.own _) (.cons (.own _) (.cons (.own _) (.cons (.own _) (.cons (.own _) (.cons (.own _) (.cons (.own _) (.cons (.own _) .nil))))))))), M.kO, ?_⟩
      have hx5 := s5 _ _ hx
      have sall := s13.trans s5
      generalize upd H3 t5 _ = H5 at hx5 sall
      refine ⟨_, rfl, a, C, none, _, _, true, rfl, M.ex, .inr (.inl hx5), hasD_none, (fun _ r => r), M.kW, _, rfl, iteT ?_⟩
      refine ⟨_, rfl, _, rfl, iteT ?_⟩
      refine ⟨_, rfl, a, C, none, _, _, true, rfl, M.ex, .inr (.inl hx5), hasD_none, (fun _ r => r), M.kV, _, rfl, iteT ?_⟩
      exact kn lt _ sall
    · refine ⟨_, rfl, rfl, _, rfl, ifT (by rfl) ?_⟩
      exact ⟨_, rfl, ky le n t r xs H2 hn e2 T2 ht hr' pr⟩
end
end My

set_option linter.all false
namespace My
open PySem PySem.Spec PyProof.Rows L2 NdefX LamX
/-! ### the law of stretches -/
abbrev sLaw22 : Stmt := topS 30
def rNeTS (K : PySem.W.Frag) : R2 := fun x y H Q => (∃ (a : Addr) (xs : List V) (z : Str), x = .ref a ∧ y = .str z ∧ SqT K H a xs ∧ Q (.bl true) H) ∨ rNe x y H Q
theorem op_neTS {X : Cx} (hu : X.A.units + 64 < cLine) : OpR X (compareOp .NotEq) (rNeTS X.K) := by
  intro pins s σ H x y v u Q I rx ry h
  rcases h with ⟨a, xs, z, rfl, rfl, ha, q⟩ | h
  · cases (show v = Value.ref a from rx)
    obtain ⟨t, rfl⟩ := (show ∃ t, u = Value.str z t from ry)
    obtain ⟨us, r1, p1, _⟩ := I.tuple ha
    have t1 : s.heap.IsTuple a us.toArray := let ⟨o, ho, hc, n, hd⟩ := p1; ⟨o, ho, hc, n, hd⟩
    exact SeqAt.RcNeAt.tuple_str z t t1 (show X.A.units < cLine by omega) X.prog X.w X.xe (EP X pins σ Q) ⟨.bl true, H, I, rfl, q⟩
  · exact op_ne pins s σ H x y v u Q I rx ry h
/-- all but the pen and the tables stay -/
def Ex (p : Addr) (H H' : Hp) : Prop := ∀ c o, c ≠ p → (∀ ps, o ≠ .tbl ps) → H c = some o → H' c = some o
theorem Ex.of {p : Addr} {H H' : Hp} (s : Same H H') : Ex p H H' := fun c o _ _ e => s _ _ e
theorem Ex.but {p : Addr} {H H' : Hp} (b : But p H H') : Ex p H H' := fun c o h _ e => b c o h e
theorem Ex.ext {p : Addr} {H H' : Hp} (b : ExtN H H') : Ex p H H' := fun c o _ h e => b c o e h
theorem Ex.trans {p : Addr} {H H1 H2 : Hp} (a : Ex p H H1) (b : Ex p H1 H2) : Ex p H H2 := fun c o h1 h2 e => b c o h1 h2 (a c o h1 h2 e)
theorem Ex.tup {p c : Addr} {H H' : Hp} {xs : List V} {ps : List V} (b : Ex p H H') (hp : H p = some (.lst ps)) (h : H c = some (.tup xs)) : H' c = some (.tup xs) := b c _ (fun z => by rw [z, hp] at h; cases h) (fun _ z => nomatch z) h
theorem tabsN_but {T : List NTab} {p : Addr} {H H' : Hp} {ps : List V} (hp : H p = some (.lst ps)) (b : But p H H') (t : TabsN T H) : TabsN T H' := fun q hq => by
  obtain ⟨qs, h1, h2, h3⟩ := t q hq
  refine ⟨qs, b _ _ (fun z => by rw [z, hp] at h1; cases h1) h1, h2, fun pos cv hc => ?_⟩
  obtain ⟨c, e1, e2⟩ := h3 pos cv hc
  exact ⟨c, e1, b _ _ (fun z => by rw [z, hp] at e2; cases e2) e2⟩
theorem PenC.ext {H H' : Hp} {p c : Addr} {t : Nat} (h : PenC H p c t) (e : ExtN H H') : PenC H' p c t := by
  obtain ⟨cells, x, y, h1, h2, h3⟩ := h.ex
  exact ⟨cells, x, y, e _ _ h1 (fun _ z => nomatch z), e _ _ h2 (fun _ z => nomatch z), h3⟩
theorem PenC.lst {H : Hp} {p c : Addr} {t : Nat} (h : PenC H p c t) : ∃ ps, H p = some (.lst ps) := let ⟨_, _, _, h1, _⟩ := h.ex; ⟨_, h1⟩
/-- a fraction with a divisor up to M -/
def FrP (H : Hp) (M : Int) (v : V) (n d : Int) : Prop := IsPr H v (n, d) ∧ 0 ≤ n ∧ n ≤ d ∧ 0 < d ∧ d ≤ M
theorem FrP.ex {H H' : Hp} {p : Addr} {M : Int} {v : V} {n d : Int} {ps : List V} (h : FrP H M v n d) (e : Ex p H H') (hp : H p = some (.lst ps)) : FrP H' M v n d := by
  obtain ⟨⟨t, rfl, ht⟩, r⟩ := h
  exact ⟨⟨t, rfl, e.tup hp ht⟩, r⟩
theorem frP_of {K : PySem.W.Frag} {G : Hp} {v : V} {n d : Int} (h : Dq K G v (.tuple [.int n, .int d])) : IsPr G v (n, d) := by
  cases h with
  | tup h1 h2 =>
    cases h2 with
    | cons a b =>
      cases b with
      | cons b c =>
        cases c
        cases a
        cases b
        exact ⟨_, rfl, h1⟩
/-- rows as data -/
def rowN : Option Nat → PyData
  | none => .none
  | some i => .int ((i : Nat) : Int)
def dustD (B : Int) (R : List (List (Option Nat))) : PyData := .tuple [.int B, .tuple (R.map fun r => .tuple (r.map rowN))]
theorem dq_row22 {K : PySem.W.Frag} {H : Hp} : ∀ r : List (Option Nat), DqAll K H (r.map nV) (r.map rowN)
  | [] => .nil
  | none :: r => .cons .non (dq_row22 r)
  | some i :: r => .cons (.int _) (dq_row22 r)
theorem dq_rows22 {K : PySem.W.Frag} {H : Hp} {xs : List V} {R : List (List (Option Nat))} (h : Paired (IsRow H) xs R) : DqAll K H xs (R.map fun r => .tuple (r.map rowN)) := by
  induction h with
  | nil => exact .nil
  | cons h t ih =>
    obtain ⟨a, rfl, ha⟩ := h
    exact .cons (.tup ha (dq_row22 _)) ih
theorem dq_dust {K : PySem.W.Frag} {H : Hp} {B : Int} {t r : Addr} {xs : List V} {R : List (List (Option Nat))} (h1 : H t = some (.tup [.int B, .ref r])) (h2 : H r = some (.tup xs)) (h : Paired (IsRow H) xs R) : Dq K H (.ref t) (dustD B R) :=
  .tup h1 (.cons (.int _) (.cons (.tup h2 (dq_rows22 h)) .nil))
theorem sh_dust {B : Int} {R : List (List (Option Nat))} (h1 : R.length ≤ 5000) (h2 : ∀ r ∈ R, r.length ≤ 5000) : Sh 4 (dustD B R) := by
  refine ⟨by show 2 ≤ 5000; decide, fun e he => ?_⟩
  rcases List.mem_cons.mp he with rfl | he
  · trivial
  · rw [List.mem_singleton.mp he]
    refine ⟨by rw [List.length_map]; exact h1, fun e he => ?_⟩
    obtain ⟨r, hr, rfl⟩ := List.mem_map.mp he
    refine ⟨by rw [List.length_map]; exact h2 r hr, fun e he => ?_⟩
    obtain ⟨o, _, rfl⟩ := List.mem_map.mp he
    cases o <;> trivial
theorem run_rows {B : Nat} {cells : Sx.St → List (Option Sx.St)} (hc : ∀ k, (cells k).length ≤ 5000) {first : Sx.St} : ∀ n, ∀ r ∈ (Bf.run cells first n).2, r.length ≤ 5000
  | 0 => fun r h => nomatch h
  | n + 1 => fun r h => by
    unfold Bf.run at h
    cases e : (Bf.run cells first n).1[n]? with
    | none => rw [e] at h; exact run_rows (B := B) hc n r h
    | some k =>
      rw [e] at h
      rcases List.mem_append.mp h with z | z
      · exact run_rows (B := B) hc n r z
      · rw [List.mem_singleton.mp z]
        unfold Bf.row
        rw [List.length_map]; exact hc k
/-- a point is inside just where it is not less than the low end, nor the high end less than it -/
theorem ins_less {a p b q n m : Int} (hp : 0 < p) (hq : 0 < q) : Sx.Ins (p * q) n m (Sx.phi p q (a, b)) ↔ (!decide (n * p < a * m)) = true ∧ (!decide (b * m < n * q)) = true := by
  unfold Sx.Ins Sx.phi
  dsimp only
  have e1 : a * q * m ≤ n * (p * q) ↔ a * m ≤ n * p := by
    rw [show a * q * m = a * m * q by ac_rfl, show n * (p * q) = n * p * q by ac_rfl]
    exact ⟨fun h => Int.le_of_mul_le_mul_right h hq, fun h => Int.mul_le_mul_of_nonneg_right h (by omega)⟩
  have e2 : n * (p * q) ≤ b * p * m ↔ n * q ≤ b * m := by
    rw [show b * p * m = b * m * p by ac_rfl, show n * (p * q) = n * q * p by ac_rfl]
    exact ⟨fun h => Int.le_of_mul_le_mul_right h hp, fun h => Int.mul_le_mul_of_nonneg_right h (by omega)⟩
  rw [e1, e2]
  simp
section
variable {P : Program} {w : World} {K : PySem.W.Frag} {mg : Str → Option Value} {base : Heap}
structure TgW (mg : Str → Option Value) : Prop where
  range : mg "range" = none
theorem scLaw22 : FnScope ["script", "pen", "turn", "base", "some", "k", "low", "high", "due", "found", "point", "inside"] ["script"] (defScope sLaw22) := ⟨rfl, rfl, rfl, by decide +kernel, rfl, by decide +kernel, by decide +kernel⟩
def spLaw22 (K : PySem.W.Frag) (Pt : Addr) : Sp := fun vs H Q _ => ∃ (a : Addr) (ns : List Int), vs = [.ref a] ∧ SqL K H a (ns.map V.int) ∧ ns.length ≤ 63 ∧ TabsN (tabC Pt) H ∧ ∀ H', Q (.bl true) H'
set_option maxHeartbeats 1000000 in
theorem ok_law22 {Pt f fO fT fLf fLe fLs fTd fS fIn : Addr} {fd fdO fdT fdLf fdLe fdLs fdTd fdS fdIn : FuncData} (F : Fun K "law" "law" sLaw22 f fd) (T : TgW mg)
    (FO : Fun K "_law_open" "_law_open" sOpen fO fdO) (GO : FnOk P w K mg base CX0 1 fO fdO ["script"] (spOpen K)) (bO : Binds K fdO ["script"] []) (gO : mg "_law_open" = some (.ref fO))
    (FT : Fun K "_law_take" "_law_take" sTake fT fdT) (GT : FnOk P w K mg base CX0 2 fT fdT ["pen", "many"] spTakeC) (bT : Binds K fdT ["pen", "many"] []) (gT : mg "_law_take" = some (.ref fT))
    (FLf : Fun K "_law_fraction" "_law_fraction" sLFraction fLf fdLf) (GLf : FnOk P w K mg base CX0 3 fLf fdLf ["pen", "base", "most"] (spLFraction K)) (bLf : Binds K fdLf ["pen", "base", "most"] []) (gLf : mg "_law_fraction" = some (.ref fLf))
    (FLe : Fun K "_law_is_less" "_law_is_less" sLess fLe fdLe) (GLe : FnOk P w K mg base CX0 1 fLe fdLe ["one", "other"] spLess) (bLe : Binds K fdLe ["one", "other"] []) (gLe : mg "_law_is_less" = some (.ref fLe))
    (FLs : Fun K "_law_stretch" "_law_stretch" sLStr fLs fdLs) (GLs : FnOk P w K mg base CX0 3 fLs fdLs ["base", "low", "high"] spLs) (bLs : Binds K fdLs ["base", "low", "high"] []) (gLs : mg "_law_stretch" = some (.ref fLs))
    (FTd : Fun K "_law_told" "_law_told" sTold22 fTd fdTd) (GTd : FnOk P w K mg base CX0 4 fTd fdTd ["base", "low", "high"] (spTold22 Pt)) (bTd : Binds K fdTd ["base", "low", "high"] []) (gTd : mg "_law_told" = some (.ref fTd))
    (FS : Fun K "_law_same" "_law_same" sSame fS fdS) (GS : FnOk P w K mg base CX0 4 fS fdS ["found", "due"] (spSame K 4)) (bS : Binds K fdS ["found", "due"] []) (gS : mg "_law_same" = some (.ref fS))
    (FIn : Fun K "_law_in" "_law_in" sLIn fIn fdIn) (GIn : FnOk P w K mg base CX0 1 fIn fdIn ["dust", "fraction"] spLIn) (bIn : Binds K fdIn ["dust", "fraction"] []) (gIn : mg "_law_in" = some (.ref fIn)) :
    FnOk P w K mg base CX0 5 f fd ["script"] (spLaw22 K Pt) := by
  refine F.ok scLaw22 (fun vs H Q E h => ?_) (fun cdv A outer h0 H vs Q E hr h => ?_)
  · obtain ⟨a, ns, rfl, _⟩ := h
    rfl
  · obtain ⟨ad, ns, rfl, hS, hlen, TT, k⟩ := h
    have hr1 : Room 1 _ := hr.mono (by decide)
    have hr2 : Room 2 _ := hr.mono (by decide)
    have hr3 : Room 3 _ := hr.mono (by decide)
    have hr4 : Room 4 _ := hr
    refine ⟨_, (pss_cons (ps_set (i := 1) scLaw22.nd rfl (Or.inr rfl) (pe_call GO hr1 (by rfl) gO FO.kp bO .nil pass0 (pa_cons (pv 0) pa_nil)))
      (pss_cons (ps_for PassesOwn.never rfl (pi_range1 (by rfl) T.range (pa_cons pe_int pa_nil)) (pg_name (i := 2) scLaw22.nd rfl (Or.inl rfl)) (pss_cons (ps_set (i := 3) scLaw22.nd rfl (Or.inr rfl) (pe_op op_add pe_int (pe_call GT hr2 (by rfl) gT FT.kp bT .nil pass0 (pa_cons (pv 1) (pa_cons pe_int pa_nil)))))
      (pss_cons (ps_set (i := 4) scLaw22.nd rfl (Or.inl rfl) (pe_op op_cat (pe_lst (pa_cons (pe_tup (pa_cons pe_int (pa_cons pe_int pa_nil))) (pa_cons (pe_tup (pa_cons pe_int (pa_cons pe_int pa_nil))) pa_nil))) (pe_lc (own := [("k", 5)]) (g := gName 5) (tt := tYes) rfl scLaw22.nd (show PI _ _ _ (iRng1 (tCons (tC (.int 3)) tNil)) from pi_range1 (by rfl) T.range (pa_cons pe_int pa_nil)) (blkOk_by (N := ["script", "pen", "turn", "base", "some", "k", "low", "high", "due", "found", "point", "inside"]) (sc := defScope sLaw22) (by decide +kernel)) (fun _ _ _ _ _ => (pg_name (i := 5) scLaw22.nd rfl (Or.inl rfl))) (fun _ _ _ _ _ => pts_nil) (fun _ _ _ _ _ => (pe_call GLf hr3 (by rfl) gLf FLf.kp bLf .nil pass0 (pa_cons (pv 1) (pa_cons (pv 3) (pa_cons pe_int pa_nil))))))))
      (pss_one (ps_for PassesOwn.never rfl (pi_list (pv 4)) (pg_name (i := 6) scLaw22.nd rfl (Or.inl rfl)) (pss_one (ps_for PassesOwn.never rfl (pi_list (pv 4)) (pg_name (i := 7) scLaw22.nd rfl (Or.inl rfl)) (pss_cons (ps_set (i := 8) scLaw22.nd rfl (Or.inl rfl) (pe_ifExp (pt_val (pe_call GLe hr1 (by rfl) gLe FLe.kp bLe .nil pass0 (pa_cons (pv 7) (pa_cons (pv 6) pa_nil)))) pe_str (pe_call GLs hr3 (by rfl) gLs FLs.kp bLs .nil pass0 (pa_cons (pv 3) (pa_cons (pv 6) (pa_cons (pv 7) pa_nil))))))
      (pss_cons (ps_set (i := 9) scLaw22.nd rfl (Or.inl rfl) (pe_call GTd hr4 (by rfl) gTd FTd.kp bTd .nil pass0 (pa_cons (pv 3) (pa_cons (pv 6) (pa_cons (pv 7) pa_nil)))))
      (pss_cons (ps_if (pt_not (pt_val (pe_call GS hr4 (by rfl) gS FS.kp bS .nil pass0 (pa_cons (pv 9) (pa_cons (pv 8) pa_nil))))) (pss_one (ps_ret pe_bl)) pss_nil)
      (pss_cons (ps_set (i := 10) scLaw22.nd rfl (Or.inl rfl) (pe_call GLf hr3 (by rfl) gLf FLf.kp bLf .nil pass0 (pa_cons (pv 1) (pa_cons (pv 3) (pa_cons pe_int pa_nil)))))
      (pss_one (ps_if (pt_cmpR (op_neTS hr.units) (pv 8) pe_str (nomark _)) (pss_cons (ps_set (i := 11) scLaw22.nd rfl (Or.inl rfl) (pe_and (pe_not (pe_call GLe hr1 (by rfl) gLe FLe.kp bLe .nil pass0 (pa_cons (pv 10) (pa_cons (pv 6) pa_nil)))) (pe_one (pe_not (pe_call GLe hr1 (by rfl) gLe FLe.kp bLe .nil pass0 (pa_cons (pv 7) (pa_cons (pv 10) pa_nil)))))))
      (pss_one (ps_if (pt_cmpR op_ne (pe_call GIn hr1 (by rfl) gIn FIn.kp bIn .nil pass0 (pa_cons (pv 9) (pa_cons (pv 10) pa_nil))) (pv 11) (nomark _)) (pss_one (ps_ret pe_bl)) pss_nil))) pss_nil)))))))))))))
      (pss_one (ps_ret pe_bl)))), ?_⟩
    refine ⟨_, rfl, ad, ns, rfl, hS, hlen, fun p H1 np s1 P1 => ?_⟩
    obtain ⟨pc, C1⟩ := P1.c
    refine ⟨6, rfl, by decide, by decide, for_range (n := 6) (fun i σ H2 => ∃ (x2 x3 x4 x5 x6 x7 x8 x9 x10 x11 : Option V), σ = [some (.ref ad), some (.ref p), x2, x3, x4, x5, x6, x7, x8, x9, x10, x11] ∧ PenC H2 p pc (200 * i) ∧ TabsN (tabC Pt) H2) ⟨none, none, none, none, none, none, none, none, none, none, rfl, C1, TT.ext s1⟩ ?_ ?_⟩
    · rintro i σ H2 hi ⟨x2, x3, x4, x5, x6, x7, x8, x9, x10, x11, rfl, C2, T2⟩
      refine ⟨_, rfl, p, pc, 9, _, rfl, by decide, by decide, C2, by omega, fun m H3 m0 m1 b3 C3 => ?_⟩
      refine ⟨_, _, rfl, rfl, ?_⟩
      dsimp only
      obtain ⟨ps2, hp2⟩ := C2.lst
      have T3 := tabsN_but hp2 b3 T2
      obtain ⟨B, hB⟩ : ∃ B : Nat, 2 + m = (B : Int) := ⟨(2 + m).toNat, by omega⟩
      rw [hB]
      have b0 : 2 ≤ B := by omega
      have b1 : B ≤ 10 := by omega
      clear b3 T2 C2 hp2 hB m0 m1 m
      refine ⟨(by show 2 ≤ sizeLine; decide), fun t0 nt0 => ⟨(by show 2 ≤ sizeLine; decide), fun t1 nt1 => ⟨(by show 2 ≤ sizeLine; decide), fun l1 nl1 => ?_⟩⟩⟩
      have q0 := same_upd (o := .tup [.int 0, .int 1]) nt0
      have q1 := same_upd (o := .tup [.int 1, .int 1]) nt1
      have q2 := same_upd (o := .lst [.ref t0, .ref t1]) nl1
      have q02 := (q0.trans q1).trans q2
      have h0 := q2 _ _ (q1 _ _ (upd_same (H := H3) (a := t0) (o := .tup [.int 0, .int 1])))
      have h1 := q2 _ _ (upd_same (H := upd H3 t0 (.tup [.int 0, .int 1])) (a := t1) (o := .tup [.int 1, .int 1]))
      have hl1 := upd_same (H := upd (upd H3 t0 (.tup [.int 0, .int 1])) t1 (.tup [.int 1, .int 1])) (a := l1) (o := .lst [.ref t0, .ref t1])
      have C4 := C3.same q02 (Nat.le_refl _)
      have T4 := T3.ext q02
      have lnp : l1 ≠ p := fun z => by
        obtain ⟨ps, hp⟩ := C3.lst
        rw [z, q1 _ _ (q0 _ _ hp)] at nl1; cases nl1
      obtain ⟨H4, hH4⟩ : ∃ H4, H4 = upd (upd (upd H3 t0 (.tup [.int 0, .int 1])) t1 (.tup [.int 1, .int 1])) l1 (.lst [.ref t0, .ref t1]) := ⟨_, rfl⟩
      rw [← hH4] at h0 h1 hl1 C4 T4
      refine goHeap hH4 ?_
      clear hH4 q0 q1 q2 q02 C3 T3
      obtain ⟨ps4, hp4⟩ := C4.lst
      refine ⟨3, rfl, by decide, by decide, fun D nD => lc_it (walk_range (lo := 0) (n := 3)) (fun k Hx => ∃ us : List V, Hx D = some (.lst us) ∧ us.length = k ∧ (∀ v ∈ us, ∃ n d, FrP Hx 60 v n d) ∧ PenC Hx p pc (200 * i + 1 + 4 * k) ∧ TabsN (tabC Pt) Hx ∧ Ex p H4 Hx) ⟨[], upd_same, rfl, (fun _ h => nomatch h), C4.same (same_upd nD) (Nat.le_refl _), T4.ext (same_upd nD), Ex.of (same_upd nD)⟩ (fun _ _ _ _ => trivial) (fun k x Ha Hb hk pr yy => ?_) fun Hx pr => ?_⟩
      · obtain ⟨us, hD, lu, fu, Cx, Tx, ex⟩ := pr
        obtain ⟨rfl, rfl⟩ := yy
        obtain ⟨psa, hpa⟩ := Cx.lst
        have Dnp : D ≠ p := fun z => by rw [z, hp4] at nD; cases nD
        refine ⟨rfl, tyes ?_⟩
        refine ⟨_, rfl, _, rfl, p, pc, (B : Int), 60, _, fun _ => none, rfl, by decide, by decide, by omega, by omega, Cx, by omega, (fun _ _ z => nomatch z), rfl, fun v n d G' H' mv C' dv n0 nd d0 dM _ => ?_⟩
        have hD' := mv.bt _ _ Dnp hD
        refine ⟨us, hD', by rw [lu, sizeLine_eq]; omega, us ++ [v], upd_same, by rw [List.length_append, lu]; rfl, fun z hz => ?_, ?_, ?_, ?_⟩
        · have tD : KpT H' (upd H' D (.lst (us ++ [v]))) := fun c ys e => by rw [upd_ne (fun z => by rw [z, hD'] at e; cases e)]; exact e
          rcases List.mem_append.mp hz with h | h
          · obtain ⟨n1, d1, fr⟩ := fu z h
            have fr' := fr.ex (Ex.but mv.bt) hpa
            exact ⟨n1, d1, fr'.1.up tD, fr'.2⟩
          · rw [List.mem_singleton.mp h]
            exact ⟨n, d, ((frP_of dv).up (KpT.of mv.gh)).up tD, n0, nd, d0, dM⟩
        · obtain ⟨cells, x, y, g1, g2, g3⟩ := C'.ex
          have Dpc : D ≠ pc := fun z => by
            obtain ⟨cl4, _, _, _, g, _⟩ := C4.ex
            rw [z, g] at nD; cases nD
          exact ⟨cells, x, y, by rw [upd_ne Dnp.symm]; exact g1, by rw [upd_ne Dpc.symm]; exact g2, g3.1, by omega⟩
        · have Tb := tabsN_but hpa mv.bt Tx
          intro z hz
          obtain ⟨qs, a1, a2, a3⟩ := Tb z hz
          refine ⟨qs, by rw [upd_ne (fun e => by rw [e, hD'] at a1; cases a1)]; exact a1, a2, fun pos cv hc => ?_⟩
          obtain ⟨c, e1, e2⟩ := a3 pos cv hc
          exact ⟨c, e1, by rw [upd_ne (fun e => by rw [e, hD'] at e2; cases e2)]; exact e2⟩
        · intro c o h1 h2 e
          rw [upd_ne (fun z => by rw [z, nD] at e; cases e)]
          exact mv.bt _ _ h1 (ex c o h1 h2 e)
      · obtain ⟨us, hD, lu, fu, C5, T5, ex5⟩ := pr
        have hl5 := ex5 l1 _ lnp (fun ps z => by cases z) hl1
        refine ⟨l1, D, _, _, rfl, rfl, hl5, hD, by rw [lu, sizeLine_eq]; simp, fun sl nsl => ?_⟩
        have s5 := same_upd (o := .lst ([.ref t0, .ref t1] ++ us)) nsl
        have hsl : (upd Hx sl (.lst ([.ref t0, .ref t1] ++ us))) sl = some (.lst ([.ref t0, .ref t1] ++ us)) := upd_same
        have C6 := C5.same s5 (Nat.le_refl _)
        have T6 := T5.ext s5
        have fr6 : ∀ v ∈ [V.ref t0, V.ref t1] ++ us, ∃ n d, FrP (upd Hx sl (.lst ([.ref t0, .ref t1] ++ us))) 60 v n d := fun v hv => by
          have e6 : Ex p H4 (upd Hx sl (.lst ([.ref t0, .ref t1] ++ us))) := ex5.trans (Ex.of s5)
          rcases List.mem_append.mp hv with h | h
          · rcases List.mem_cons.mp h with rfl | h
            · exact ⟨0, 1, ⟨t0, rfl, e6.tup hp4 h0⟩, by decide, by decide, by decide, by decide⟩
            · rw [List.mem_singleton.mp h]
              exact ⟨1, 1, ⟨t1, rfl, e6.tup hp4 h1⟩, by decide, by decide, by decide, by decide⟩
          · obtain ⟨n1, d1, fr⟩ := fu v h
            exact ⟨n1, d1, fr.1.up (KpT.of s5), fr.2⟩
        have lxs : ([V.ref t0, V.ref t1] ++ us).length = 5 := by rw [List.length_append, lu]; rfl
        have snp : sl ≠ p := fun z => by
          obtain ⟨ps, hp⟩ := C5.lst
          rw [z, hp] at nsl; cases nsl
        generalize [V.ref t0, V.ref t1] ++ us = xs at hsl C6 T6 fr6 lxs s5 ⊢
        generalize upd Hx sl (.lst xs) = H6 at hsl C6 T6 fr6 s5 ⊢
        clear s5 nsl hD fu C5 T5 ex5 hl5 nD C4 T4 h0 h1 hl1 hp4 lu
        obtain ⟨ps6, hp6⟩ := C6.lst
        refine ⟨_, rfl, sl, rfl, ⟨_, SqL.of hsl⟩, for_it (walk_list (K := K) (a := sl) (xs := xs)) (fun j σ Hx => ∃ (x5 x6 x7 x8 x9 x10 x11 : Option V), σ = [some (.ref ad), some (.ref p), some (.int (0 + (i : Int))), some (.int (B : Nat)), some (.ref sl), x5, x6, x7, x8, x9, x10, x11] ∧ Ex p H6 Hx ∧ PenC Hx p pc (200 * i + 13 + 20 * j) ∧ TabsN (tabC Pt) Hx) ⟨_, _, _, _, _, _, _, rfl, Ex.of (Same.refl _), C6, T6⟩ ?_ ?_ ?_⟩
        · rintro j σ Hx _ ⟨_, _, _, _, _, _, _, rfl, ex, _⟩
          exact SqL.of (ex _ _ snp (fun _ z => nomatch z) hsl)
        · rintro j v σ Ho Hj hj ⟨x5, x6, x7, x8, x9, x10, x11, rfl, exj, Cj, Tj⟩ ⟨rfl, hv⟩
          refine ⟨_, rfl, sl, rfl, ⟨_, SqL.of (exj _ _ snp (fun _ z => nomatch z) hsl)⟩, for_it (walk_list (K := K) (a := sl) (xs := xs)) (fun k σ Hx => ∃ (x7 x8 x9 x10 x11 : Option V), σ = [some (.ref ad), some (.ref p), some (.int (0 + (i : Int))), some (.int (B : Nat)), some (.ref sl), x5, some v, x7, x8, x9, x10, x11] ∧ Ex p H6 Hx ∧ PenC Hx p pc (200 * i + 13 + 20 * j + 4 * k) ∧ TabsN (tabC Pt) Hx) ⟨_, _, _, _, _, rfl, exj, Cj, Tj⟩ ?_ ?_ ?_⟩
          · rintro k σ Hx _ ⟨_, _, _, _, _, rfl, ex, _⟩
            exact SqL.of (ex _ _ snp (fun _ z => nomatch z) hsl)
          · rintro k u σ Ho Hk hk ⟨x7, x8, x9, x10, x11, rfl, exk, Ck, Tk⟩ ⟨rfl, hu⟩
            obtain ⟨a, c, ⟨pv, a0, a1, c0, c1⟩⟩ := fr6 v (List.mem_of_getElem? hv)
            obtain ⟨b, d, ⟨pu, b0', b1', d0, d1⟩⟩ := fr6 u (List.mem_of_getElem? hu)
            have EO : EndsOk B a c b d := ⟨b0, b1, a0, a1, c0, c1, b0', b1', d0, d1⟩
            have hvk : IsPr Hk v (a, c) := let ⟨t, e, ht⟩ := pv; ⟨t, e, exk.tup hp6 ht⟩
            have huk : IsPr Hk u (b, d) := let ⟨t, e, ht⟩ := pu; ⟨t, e, exk.tup hp6 ht⟩
            obtain ⟨psk, hpk⟩ := Ck.lst
            refine ⟨_, rfl, _, rfl, u, v, (b, d), (a, c), rfl, huk, hvk, by dsimp only; omega, by dsimp only; omega, by dsimp only; omega, by dsimp only; omega, _, rfl, ?_⟩
            dsimp only
            by_cases lt : b * c < a * d
            · refine ifT (decide_eq_true lt) ?_
              refine ⟨_, rfl, _, rfl, _, rfl, B, v, u, a, c, b, d, rfl, hvk, huk, EO, Tk, fun _ H7 s7 => ?_, fun le => absurd le (by omega)⟩
              refine ⟨_, rfl, _, rfl, .str "refused", .str "refused", .str "refused", rfl, .str _, .str _, trivial, fun H8 s8 => ?_⟩
              refine ⟨_, rfl, ifF rfl ?_⟩
              have s78 := s7.trans s8
              have C8 := Ck.same s78 (Nat.le_refl _)
              have T8 := Tk.ext s78
              refine ⟨_, rfl, _, rfl, p, pc, (B : Int), 300, _, fun _ => none, rfl, by decide, by decide, by omega, by omega, C8, by omega, (fun _ _ z => nomatch z), rfl, fun pv n m G' H9 mv C9 dv n0 nm m0 m3 _ => ?_⟩
              refine ⟨_, rfl, .inr ⟨rfl, _, rfl, ifF (by simp) ?_⟩⟩
              exact ⟨_, _, _, _, _, rfl, (exk.trans (Ex.of s78)).trans (Ex.but mv.bt), C9, tabsN_but (s78 _ _ hpk) mv.bt T8⟩
            · refine ifF (decide_eq_false lt) ?_
              have le : a * d ≤ b * c := by omega
              refine ⟨_, rfl, _, rfl, _, rfl, B, v, u, a, c, b, d, rfl, hvk, huk, EO, le, fun n t r ys H7 hn s7 ht hr' py => ?_⟩
              have T7 := Tk.ext s7
              refine ⟨_, rfl, _, rfl, _, rfl, B, v, u, a, c, b, d, rfl, hvk.up (KpT.of s7), huk.up (KpT.of s7), EO, T7, fun lt2 => absurd lt2 lt, fun _ n2 t2 r2 ys2 H8 hn2 e8 T8 ht2 hr2' py2 => ?_⟩
              obtain ⟨rs1, rs2⟩ := Sx.rows_same (B := B) c0 d0 (a, b) n
              have hnp : (Bf.run (Sx.pcells B c d) (a, b) n).1.length = n := rs2.symm.trans hn
              obtain rfl : n2 = n := Bf.run_one hn2 hnp
              rw [← rs1] at py2
              have ht8 := e8 _ _ ht (fun _ z => nomatch z)
              have hr8 := e8 _ _ hr' (fun _ z => nomatch z)
              have kp78 : KpT H7 H8 := fun c' ys' e => e8 _ _ e (fun _ z => nomatch z)
              have py8 := rows_up kp78 py
              have GO := EO.gr le
              obtain ⟨lR, ndR⟩ := Bf.run_len (cells := Sx.cells B (c * d)) (first := Sx.phi c d (a, b)) n2 (by omega)
              have n37 : n2 ≤ 3721 := by
                have := GO.bd _ (Bf.run_len (cells := Sx.pcells B c d) (first := (a, b)) n2 (by omega)).2 (GO.keys n2)
                omega
              have sh : Sh 4 (dustD (B : Int) (Bf.run (Sx.cells B (c * d)) (Sx.phi c d (a, b)) n2).2) := sh_dust (by omega) (run_rows (B := B) (fun k => by rw [cells_len]; omega) n2)
              refine ⟨_, rfl, _, rfl, .ref t2, .ref t, dustD (B : Int) (Bf.run (Sx.cells B (c * d)) (Sx.phi c d (a, b)) n2).2, rfl, dq_dust ht2 hr2' py2, dq_dust ht8 hr8 py8, sh, fun H9 s9 => ?_⟩
              refine ⟨_, rfl, ifF rfl ?_⟩
              have C9 := ((Ck.same s7 (Nat.le_refl _)).ext e8).same s9 (Nat.le_refl _)
              have T9 := T8.ext s9
              have ex9 : Ex p Hk H9 := ((Ex.of s7).trans (Ex.ext e8)).trans (Ex.of s9)
              obtain ⟨ps9, hp9⟩ := C9.lst
              refine ⟨_, rfl, _, rfl, p, pc, (B : Int), 300, _, fun _ => none, rfl, by decide, by decide, by omega, by omega, C9, by omega, (fun _ _ z => nomatch z), rfl, fun pv n m G' H10 mv C10 dv n0 nm m0 m3 _ => ?_⟩
              have ex10 : Ex p Hk H10 := ex9.trans (Ex.but mv.bt)
              have T10 := tabsN_but hp9 mv.bt T9
              have pv10 : IsPr H10 pv (n, m) := (frP_of dv).up (KpT.of mv.gh)
              have hv10 : IsPr H10 v (a, c) := let ⟨t, e, ht⟩ := hvk; ⟨t, e, ex10.tup hpk ht⟩
              have hu10 : IsPr H10 u (b, d) := let ⟨t, e, ht⟩ := huk; ⟨t, e, ex10.tup hpk ht⟩
              have k910 : KpT H9 H10 := fun c' ys' e => (Ex.but mv.bt).tup hp9 e
              have ht10 := k910 _ _ (s9 _ _ ht2)
              have hr10 := k910 _ _ (s9 _ _ hr2')
              have py10 := rows_up k910 (rows_up (KpT.of s9) py2)
              refine ⟨_, rfl, .inl ⟨t, _, "refused", rfl, rfl, SqT.of (k910 _ _ (s9 _ _ ht8)), _, rfl, ifT rfl ?_⟩⟩
              refine ⟨_, rfl, _, rfl, pv, v, (n, m), (a, c), rfl, pv10, hv10, by dsimp only; omega, by dsimp only; omega, by dsimp only; omega, by dsimp only; omega, ?_⟩
              refine ⟨_, rfl, _, rfl, ?_⟩
              dsimp only
              by_cases l1 : n * c < a * m
              · refine ifF (by rw [decide_eq_true l1]; rfl) ?_
                refine ⟨_, rfl, _, rfl, B, t2, r2, ys2, pv, n, m, c * d, Sx.phi c d (a, b), n2, rfl, ht10, hr10, pv10, b0, b1, Int.mul_pos c0 d0, EO.al le, n0, nm, m0, m3, by omega, hn, py10, fun bb H11 s11 hbb => ?_⟩
                have ebb : bb = false := by
                  have q := ins_less (a := a) (b := b) (n := n) (m := m) c0 d0
                  rw [decide_eq_true l1] at q
                  rw [Bool.eq_iff_iff]
                  exact hbb.trans (q.trans (by simp))
                refine ⟨_, rfl, rfl, _, rfl, ifF (by rw [ebb]; simp) ?_⟩
                exact ⟨_, _, _, _, _, rfl, (exk.trans ex10).trans (Ex.of s11), C10.same s11 (Nat.le_refl _), T10.ext s11⟩
              · refine ifT (by rw [decide_eq_false l1]; rfl) ?_
                refine ⟨_, rfl, _, rfl, u, pv, (b, d), (n, m), rfl, hu10, pv10, by dsimp only; omega, by dsimp only; omega, by dsimp only; omega, by dsimp only; omega, _, rfl, ?_⟩
                dsimp only
                refine ⟨_, rfl, _, rfl, B, t2, r2, ys2, pv, n, m, c * d, Sx.phi c d (a, b), n2, rfl, ht10, hr10, pv10, b0, b1, Int.mul_pos c0 d0, EO.al le, n0, nm, m0, m3, by omega, hn, py10, fun bb H11 s11 hbb => ?_⟩
                have ebb : bb = !decide (b * m < n * d) := by
                  have q := ins_less (a := a) (b := b) (n := n) (m := m) c0 d0
                  rw [decide_eq_false l1] at q
                  rw [Bool.eq_iff_iff]
                  exact hbb.trans (q.trans (by simp))
                refine ⟨_, rfl, rfl, _, rfl, ifF (by rw [ebb]; simp) ?_⟩
                exact ⟨_, _, _, _, _, rfl, (exk.trans ex10).trans (Ex.of s11), C10.same s11 (Nat.le_refl _), T10.ext s11⟩
          · rintro σ Hx ⟨x7, x8, x9, x10, x11, rfl, ex, C, T⟩
            rw [lxs] at C
            exact ⟨_, _, _, _, _, _, _, rfl, ex, C, T⟩
        · rintro σ Hx ⟨x5, x6, x7, x8, x9, x10, x11, rfl, ex, C, T⟩
          rw [lxs] at C
          exact ⟨_, _, _, _, _, _, _, _, _, _, rfl, C.same (Same.refl _) (by omega), T⟩
    · rintro σ H2 ⟨x2, x3, x4, x5, x6, x7, x8, x9, x10, x11, rfl, C2, T2⟩
      exact k _
end
end My

set_option linter.all false
namespace My
open PySem PySem.Spec PyProof.Rows L2
theorem all_mk {l : PySem.W.OpenLaw} {w : World} {K : PySem.W.Frag} {h : Heap} {mg : Str → Option Value} {fa q0 q1 q2 q3 q4 q5 q6 q7 q8 q9 D C cS Pt tD f1 f2 f3 f4 f5 f6 f7 f8 f9 f10 f11 f12 f13 f14 f15 : Addr} (X : K.In h) (G : h.Ns mainGlobals mg) (hfa : mg "law" = some (.ref fa))
    {tod od1 an1 od2 an2 od3 an3 od4 an4 od5 an5 od6 an6 od7 an7 od8 an8 od9 an9 od10 an10 od11 an11 od12 an12 od13 an13 od14 an14 od15 an15 : Option Addr} {tn : Nat} {tsl sl1 sl2 sl3 sl4 sl5 sl6 sl7 sl8 sl9 sl10 sl11 sl12 sl13 sl14 sl15 : Array (Option Value)} {tcl oc1 kV1 dc1 pm1 cd1 ct1 oc2 kV2 dc2 pm2 ct2 oc3 kV3 dc3 pm3 cd3 ct3 oc4 kV4 dc4 pm4 cd4 ct4 oc5 kV5 dc5 pm5 cd5 ct5 oc6 kV6 dc6 pm6 cd6 ct6 oc7 kV7 dc7 pm7 cd7 ct7 oc8 kV8 dc8 pm8 cd8 ct8 oc9 kV9 dc9 pm9 cd9 ct9 oc10 kV10 dc10 pm10 cd10 ct10 oc11 kV11 dc11 pm11 cd11 ct11 oc12 kV12 dc12 pm12 cd12 ct12 oc13 kV13 dc13 pm13 cd13 ct13 oc14 kV14 dc14 pm14 cd14 ct14 oc15 kV15 dc15 pm15 cd15 ct15 : Value}
    (a1 : PySem.W.nsIn K mainGlobals "grown" = some (some (.ref f1))) (l1 : K.lookup f1 = some ⟨oc1, od1, .func (PySem.W.fnOf "grown" "grown" (defArgs sGrown) (defBody sGrown) (defScope sGrown) (Value.ref tD) kV1 dc1 pm1 an1 cd1 ct1), sl1⟩) (c1 : PySem.W.codeIn K cd1 "grown" = true) (k1 : PySem.W.keepIn K (.ref f1) = true)
    (a2 : PySem.W.nsIn K mainGlobals "stretch" = some (some (.ref f2))) (l2 : K.lookup f2 = some ⟨oc2, od2, .func (PySem.W.fnOf "stretch" "stretch" (defArgs sStretch) (defBody sStretch) (defScope sStretch) .none kV2 dc2 pm2 an2 (Value.ref cS) ct2), sl2⟩) (c2 : PySem.W.codeIn K (Value.ref cS) "stretch" = true) (k2 : PySem.W.keepIn K (.ref f2) = true)
    (a3 : PySem.W.nsIn K mainGlobals "_law_spread" = some (some (.ref f3))) (l3 : K.lookup f3 = some ⟨oc3, od3, .func (PySem.W.fnOf "_law_spread" "_law_spread" (defArgs sSpread) (defBody sSpread) (defScope sSpread) .none kV3 dc3 pm3 an3 cd3 ct3), sl3⟩) (c3 : PySem.W.codeIn K cd3 "_law_spread" = true) (k3 : PySem.W.keepIn K (.ref f3) = true)
    (a4 : PySem.W.nsIn K mainGlobals "_law_open" = some (some (.ref f4))) (l4 : K.lookup f4 = some ⟨oc4, od4, .func (PySem.W.fnOf "_law_open" "_law_open" (defArgs sOpen) (defBody sOpen) (defScope sOpen) .none kV4 dc4 pm4 an4 cd4 ct4), sl4⟩) (c4 : PySem.W.codeIn K cd4 "_law_open" = true) (k4 : PySem.W.keepIn K (.ref f4) = true)
    (a5 : PySem.W.nsIn K mainGlobals "_law_take" = some (some (.ref f5))) (l5 : K.lookup f5 = some ⟨oc5, od5, .func (PySem.W.fnOf "_law_take" "_law_take" (defArgs sTake) (defBody sTake) (defScope sTake) .none kV5 dc5 pm5 an5 cd5 ct5), sl5⟩) (c5 : PySem.W.codeIn K cd5 "_law_take" = true) (k5 : PySem.W.keepIn K (.ref f5) = true)
    (a6 : PySem.W.nsIn K mainGlobals "_law_same" = some (some (.ref f6))) (l6 : K.lookup f6 = some ⟨oc6, od6, .func (PySem.W.fnOf "_law_same" "_law_same" (defArgs sSame) (defBody sSame) (defScope sSame) .none kV6 dc6 pm6 an6 cd6 ct6), sl6⟩) (c6 : PySem.W.codeIn K cd6 "_law_same" = true) (k6 : PySem.W.keepIn K (.ref f6) = true)
    (a7 : PySem.W.nsIn K mainGlobals "_law_reduced" = some (some (.ref f7))) (l7 : K.lookup f7 = some ⟨oc7, od7, .func (PySem.W.fnOf "_law_reduced" "_law_reduced" (defArgs sRed) (defBody sRed) (defScope sRed) .none kV7 dc7 pm7 an7 cd7 ct7), sl7⟩) (c7 : PySem.W.codeIn K cd7 "_law_reduced" = true) (k7 : PySem.W.keepIn K (.ref f7) = true)
    (a8 : PySem.W.nsIn K mainGlobals "_law_fraction" = some (some (.ref f8))) (l8 : K.lookup f8 = some ⟨oc8, od8, .func (PySem.W.fnOf "_law_fraction" "_law_fraction" (defArgs sLFraction) (defBody sLFraction) (defScope sLFraction) .none kV8 dc8 pm8 an8 cd8 ct8), sl8⟩) (c8 : PySem.W.codeIn K cd8 "_law_fraction" = true) (k8 : PySem.W.keepIn K (.ref f8) = true)
    (a9 : PySem.W.nsIn K mainGlobals "_law_kept" = some (some (.ref f9))) (l9 : K.lookup f9 = some ⟨oc9, od9, .func (PySem.W.fnOf "_law_kept" "_law_kept" (defArgs sKept) (defBody sKept) (defScope sKept) .none kV9 dc9 pm9 an9 cd9 ct9), sl9⟩) (c9 : PySem.W.codeIn K cd9 "_law_kept" = true) (k9 : PySem.W.keepIn K (.ref f9) = true)
    (a10 : PySem.W.nsIn K mainGlobals "_law_canon" = some (some (.ref f10))) (l10 : K.lookup f10 = some ⟨oc10, od10, .func (PySem.W.fnOf "_law_canon" "_law_canon" (defArgs sCanon) (defBody sCanon) (defScope sCanon) .none kV10 dc10 pm10 an10 cd10 ct10), sl10⟩) (c10 : PySem.W.codeIn K cd10 "_law_canon" = true) (k10 : PySem.W.keepIn K (.ref f10) = true)
    (a11 : PySem.W.nsIn K mainGlobals "_law_in" = some (some (.ref f11))) (l11 : K.lookup f11 = some ⟨oc11, od11, .func (PySem.W.fnOf "_law_in" "_law_in" (defArgs sLIn) (defBody sLIn) (defScope sLIn) .none kV11 dc11 pm11 an11 cd11 ct11), sl11⟩) (c11 : PySem.W.codeIn K cd11 "_law_in" = true) (k11 : PySem.W.keepIn K (.ref f11) = true)
    (a12 : PySem.W.nsIn K mainGlobals "_law_is_less" = some (some (.ref f12))) (l12 : K.lookup f12 = some ⟨oc12, od12, .func (PySem.W.fnOf "_law_is_less" "_law_is_less" (defArgs sLess) (defBody sLess) (defScope sLess) .none kV12 dc12 pm12 an12 cd12 ct12), sl12⟩) (c12 : PySem.W.codeIn K cd12 "_law_is_less" = true) (k12 : PySem.W.keepIn K (.ref f12) = true)
    (a13 : PySem.W.nsIn K mainGlobals "_law_stretch" = some (some (.ref f13))) (l13 : K.lookup f13 = some ⟨oc13, od13, .func (PySem.W.fnOf "_law_stretch" "_law_stretch" (defArgs sLStr) (defBody sLStr) (defScope sLStr) .none kV13 dc13 pm13 an13 cd13 ct13), sl13⟩) (c13 : PySem.W.codeIn K cd13 "_law_stretch" = true) (k13 : PySem.W.keepIn K (.ref f13) = true)
    (a14 : PySem.W.nsIn K mainGlobals "_law_told" = some (some (.ref f14))) (l14 : K.lookup f14 = some ⟨oc14, od14, .func (PySem.W.fnOf "_law_told" "_law_told" (defArgs sTold22) (defBody sTold22) (defScope sTold22) .none kV14 dc14 pm14 an14 cd14 ct14), sl14⟩) (c14 : PySem.W.codeIn K cd14 "_law_told" = true) (k14 : PySem.W.keepIn K (.ref f14) = true)
    (a15 : PySem.W.nsIn K mainGlobals "law" = some (some (.ref f15))) (l15 : K.lookup f15 = some ⟨oc15, od15, .func (PySem.W.fnOf "law" "law" (defArgs sLaw22) (defBody sLaw22) (defScope sLaw22) .none kV15 dc15 pm15 an15 cd15 ct15), sl15⟩) (c15 : PySem.W.codeIn K cd15 "law" = true) (k15 : PySem.W.keepIn K (.ref f15) = true)
    (z_isinstance : PySem.W.nsIn K mainGlobals "isinstance" = some none)
    (z_int : PySem.W.nsIn K mainGlobals "int" = some none)
    (z_bool : PySem.W.nsIn K mainGlobals "bool" = some none)
    (z_str : PySem.W.nsIn K mainGlobals "str" = some none)
    (z_tuple : PySem.W.nsIn K mainGlobals "tuple" = some none)
    (z_list : PySem.W.nsIn K mainGlobals "list" = some none)
    (z_len : PySem.W.nsIn K mainGlobals "len" = some none)
    (z_zip : PySem.W.nsIn K mainGlobals "zip" = some none)
    (z_enumerate : PySem.W.nsIn K mainGlobals "enumerate" = some none)
    (z_range : PySem.W.nsIn K mainGlobals "range" = some none)
    (z_max : PySem.W.nsIn K mainGlobals "max" = some none)
    (z_min : PySem.W.nsIn K mainGlobals "min" = some none)
    (z_dict : PySem.W.nsIn K mainGlobals "dict" = some none)
    (z_ValueError : PySem.W.nsIn K mainGlobals "ValueError" = some none)
    (u0 : PySem.W.nsIn K mainGlobals "Full" = some (some (.ref q0)))
    (u1 : PySem.W.nsIn K mainGlobals "Held" = some (some (.ref q1)))
    (u2 : PySem.W.nsIn K mainGlobals "NoBase" = some (some (.ref q2)))
    (u3 : PySem.W.nsIn K mainGlobals "NoForm" = some (some (.ref q3)))
    (u4 : PySem.W.nsIn K mainGlobals "NoName" = some (some (.ref q4)))
    (u5 : PySem.W.nsIn K mainGlobals "NoRow" = some (some (.ref q5)))
    (u6 : PySem.W.nsIn K mainGlobals "NoText" = some (some (.ref q6)))
    (u7 : PySem.W.nsIn K mainGlobals "NoWay" = some (some (.ref q7)))
    (u8 : PySem.W.nsIn K mainGlobals "Ring" = some (some (.ref q8)))
    (u9 : PySem.W.nsIn K mainGlobals "TooMany" = some (some (.ref q9)))
    (uD : PySem.W.nsIn K mainGlobals "DustError" = some (some (.ref D)))
    (uW : PySem.W.nsIn K mainGlobals "NoStretch" = some (some (.ref C)))
    (xm : PySem.W.exmOne K (.ref C) (.ref D) = some true)
    (xi : exiB K C = true)
    (kW : PySem.W.kitOne K (.ref C) (.ref C) = some true)
    (kV : PySem.W.kitOne K (.ref C) (.type "ValueError") = some true)
    (kO : PySem.W.kitAny K (.ref C) [.ref q0, .ref q1, .ref q2, .ref q3, .ref q4, .ref q5, .ref q6, .ref q7, .ref q8, .ref q9] = some false)
    (xC : PySem.W.excIn K C [.type "ValueError", .type "Exception", .type "BaseException", .type "object"] "ValueError.__new__" = true)
    (kC : PySem.W.keepIn K (.ref C) = true)
    (tC : PySem.W.typeIn K (.ref C) = some (.type "type"))
    (lD : K.lookup tD = some ⟨tcl, tod, .seq #[.none] tn, tsl⟩)
    (nT : K.lookup Pt = none)
    (cH : PySem.W.codeHdIn K cS Pt = true)
    (hT : h.get? Pt = some { cls := .none, data := .fields #[] })
    : LamX.LawAtS l w K CX0 5 63 "script" mg fa h := by
  have e := hfa.symm.trans (PySem.W.mg_of X G a15)
  cases e
  have F1 : FunD K "grown" "grown" (C8.fnArgs sGrown) (C8.fnBody sGrown) (C8.fnScope sGrown) [.non] [] f1 _ := ⟨⟨oc1, od1, .ref tD, kV1, dc1, pm1, an1, cd1, ct1, sl1, rfl, l1, c1, .inr ⟨(fun z => nomatch z), tD, _, [Value.none], tn, rfl, lD, rfl, .cons rfl .nil⟩, .inl rfl⟩, k1⟩; have g1 := PySem.W.mg_of X G a1
  have F2 := fun_mk (st := sStretch) l2 c2 k2; have g2 := PySem.W.mg_of X G a2
  have F3 := fun_mk (st := sSpread) l3 c3 k3; have g3 := PySem.W.mg_of X G a3
  have F4 := fun_mk (st := sOpen) l4 c4 k4; have g4 := PySem.W.mg_of X G a4
  have F5 := fun_mk (st := sTake) l5 c5 k5; have g5 := PySem.W.mg_of X G a5
  have F6 := fun_mk (st := sSame) l6 c6 k6; have g6 := PySem.W.mg_of X G a6
  have F7 := fun_mk (st := sRed) l7 c7 k7; have g7 := PySem.W.mg_of X G a7
  have F8 := fun_mk (st := sLFraction) l8 c8 k8; have g8 := PySem.W.mg_of X G a8
  have F9 := fun_mk (st := sKept) l9 c9 k9; have g9 := PySem.W.mg_of X G a9
  have F10 := fun_mk (st := sCanon) l10 c10 k10; have g10 := PySem.W.mg_of X G a10
  have F11 := fun_mk (st := sLIn) l11 c11 k11; have g11 := PySem.W.mg_of X G a11
  have F12 := fun_mk (st := sLess) l12 c12 k12; have g12 := PySem.W.mg_of X G a12
  have F13 := fun_mk (st := sLStr) l13 c13 k13; have g13 := PySem.W.mg_of X G a13
  have F14 := fun_mk (st := sTold22) l14 c14 k14; have g14 := PySem.W.mg_of X G a14
  have F15 := fun_mk (st := sLaw22) l15 c15 k15; have g15 := PySem.W.mg_of X G a15
  have m_isinstance := PySem.W.mg_none_of X G z_isinstance
  have m_int := PySem.W.mg_none_of X G z_int
  have m_bool := PySem.W.mg_none_of X G z_bool
  have m_str := PySem.W.mg_none_of X G z_str
  have m_tuple := PySem.W.mg_none_of X G z_tuple
  have m_list := PySem.W.mg_none_of X G z_list
  have m_len := PySem.W.mg_none_of X G z_len
  have m_zip := PySem.W.mg_none_of X G z_zip
  have m_enumerate := PySem.W.mg_none_of X G z_enumerate
  have m_range := PySem.W.mg_none_of X G z_range
  have m_max := PySem.W.mg_none_of X G z_max
  have m_min := PySem.W.mg_none_of X G z_min
  have m_dict := PySem.W.mg_none_of X G z_dict
  have m_ValueError := PySem.W.mg_none_of X G z_ValueError
  have b2 := F2.binds (ps := ["base", "low", "high"]) fun _ _ _ _ _ _ us hl => match us, hl with | [_, _, _], _ => rfl
  have b3 := F3.binds (ps := ["cell", "at"]) fun _ _ _ _ _ _ us hl => match us, hl with | [_, _], _ => rfl
  have b4 := F4.binds (ps := ["script"]) fun _ _ _ _ _ _ us hl => match us, hl with | [_], _ => rfl
  have b5 := F5.binds (ps := ["pen", "many"]) fun _ _ _ _ _ _ us hl => match us, hl with | [_, _], _ => rfl
  have b6 := F6.binds (ps := ["found", "due"]) fun _ _ _ _ _ _ us hl => match us, hl with | [_, _], _ => rfl
  have b7 := F7.binds (ps := ["top", "whole"]) fun _ _ _ _ _ _ us hl => match us, hl with | [_, _], _ => rfl
  have b8 := F8.binds (ps := ["pen", "base", "most"]) fun _ _ _ _ _ _ us hl => match us, hl with | [_, _, _], _ => rfl
  have b9 := F9.binds (ps := ["table"]) fun _ _ _ _ _ _ us hl => match us, hl with | [_], _ => rfl
  have b10 := F10.binds (ps := ["base", "start", "table"]) fun _ _ _ _ _ _ us hl => match us, hl with | [_, _, _], _ => rfl
  have b11 := F11.binds (ps := ["dust", "fraction"]) fun _ _ _ _ _ _ us hl => match us, hl with | [_, _], _ => rfl
  have b12 := F12.binds (ps := ["one", "other"]) fun _ _ _ _ _ _ us hl => match us, hl with | [_, _], _ => rfl
  have b13 := F13.binds (ps := ["base", "low", "high"]) fun _ _ _ _ _ _ us hl => match us, hl with | [_, _, _], _ => rfl
  have b14 := F14.binds (ps := ["base", "low", "high"]) fun _ _ _ _ _ _ us hl => match us, hl with | [_, _, _], _ => rfl
  obtain ⟨dsG, dvG, bG⟩ := F1.binds1 (ps := ["first", "cells", "most"]) 2 0 (fun z => nomatch z) rfl fun T kV doc pm an cdv ct us its hu hi => match us, its, hu, hi with | [_, _], [_], _, _ => ⟨_, rfl, rfl⟩
  have TS : TxS mg := ⟨m_isinstance, m_int, m_bool, m_str, m_tuple, m_list, m_len, m_zip⟩
  have TF : TxF mg := ⟨m_max, m_int, m_range, m_tuple⟩
  have gC := PySem.W.mg_of X G uW
  have M : ClS K mg [q0, q1, q2, q3, q4, q5, q6, q7, q8, q9] D C := ⟨PySem.W.mg_of X G uD, gC, PySem.W.mg_of X G u0, PySem.W.mg_of X G u1, PySem.W.mg_of X G u2, PySem.W.mg_of X G u3, PySem.W.mg_of X G u4, PySem.W.mg_of X G u5, PySem.W.mg_of X G u6, PySem.W.mg_of X G u7, PySem.W.mg_of X G u8, PySem.W.mg_of X G u9, xm, exiB_ok xi, kW, kV, kO⟩
  refine ⟨PySem.W.fnOf "law" "law" (defArgs sLaw22) (defBody sLaw22) (defScope sLaw22) .none kV15 dc15 pm15 an15 cd15 ct15, [(cS, Pt)], spLaw22 K Pt, ?_, ?_, ?_, fun s v => .of_eq rfl, ?_, ?_⟩
  · intro p hp; rw [List.mem_singleton.mp hp]; exact hT
  · intro p hp; rw [List.mem_singleton.mp hp]; exact nT
  · intro p hp; rw [List.mem_singleton.mp hp]; exact PySem.W.codeHd_of_K X cH
  · intro H a ns hl _ hH hS
    refine ⟨a, ns, rfl, hS, hl, fun q hq => ?_, fun _ => rfl⟩
    rw [List.mem_singleton.mp hq]
    exact NdefX.TabN.nil (hH _ List.mem_cons_self)
  · intro base _ _ hTB
    have TB : LamX.TabB base mg cS Pt := hTB _ List.mem_cons_self
    have GT := ok_takeC (P := l.prog) (w := w) (base := base) F5 m_len F3 b3 g3
    have GR := ok_red (P := l.prog) (w := w) (mg := mg) (base := base) F7
    have GG : ∀ (cl : List (Str × Addr)) (ws : List (Option V)), FnC l.prog w K mg base 2 f1 _ ["first", "cells", "most"] (CapsAt cl frC ws) (spGrown l.prog w K mg base 1 frC cl ws) := fun cl ws => ok_grown F1 ⟨m_len, m_tuple⟩ cl ws
    have GSt := ok_st (P := l.prog) (w := w) (base := base) F2 rfl TB ⟨m_tuple⟩ ⟨m_range, m_max, m_min⟩ F1 GG bG dvG g1 xC gC kC (exiB_ok xi).hs tC
    have GTd := ok_told22 (P := l.prog) (w := w) (base := base) F14 ⟨m_isinstance, m_ValueError⟩ M F2 GSt b2 g2
    have GKp := ok_kept (P := l.prog) (w := w) (base := base) F9 ⟨m_dict, m_len⟩
    have GCa := ok_canon (P := l.prog) (w := w) (base := base) F10 ⟨m_dict, m_len, m_tuple⟩ F9 GKp b9 g9
    have GLs := ok_ls (P := l.prog) (w := w) (base := base) F13 ⟨m_range, m_max, m_min⟩ F10 GCa b10 g10
    have GIn := ok_in (P := l.prog) (w := w) (base := base) F11 ⟨m_min⟩
    have GLe := ok_less (P := l.prog) (w := w) (mg := mg) (base := base) F12
    have GS := ok_same (P := l.prog) (w := w) (base := base) F6 TS b6 g6 4
    have GLf := ok_lfraction (P := l.prog) (w := w) (base := base) F8 TF F5 GT b5 g5 F7 GR b7 g7
    exact ok_law22 F15 ⟨m_range⟩ F4 (ok_open F4 m_list m_enumerate) b4 g4 F5 GT b5 g5 F8 GLf b8 g8 F12 GLe b12 g12 F13 GLs b13 g13 F14 GTd b14 g14 F6 GS b6 g6 F11 GIn b11 g11
end My
open PySem PySem.W PyProof.Rows
set_option maxRecDepth 100000 in
set_option maxHeartbeats 0 in
theorem PySem.Challenge.cw_dustwithin_k22_stretches_holds : PySem.Challenge.rw_dustwithin_k22_stretches.Holds := by
  w_on; o_law; k_head; (case hw => w_witness2)
  k_fill
  refine LamX.walk_ofTs (l := PySem.Challenge.rw_dustwithin_k22_stretches) (n := 63) (k := 5) (x := "script") (CX := fun _ => L2.CX0) rfl (by decide) rfl ⟨rfl, by decide, by decide⟩ (fun w h Y => PySem.W.km_in_of Y) ?F (fun _ _ _ _ _ z => z)
  case F =>
    intro w mg fa h Y KX G hmg
    refine' My.all_mk KX G hmg ?a1 ?l1 ?c1 ?k1 ?a2 ?l2 ?c2 ?k2 ?a3 ?l3 ?c3 ?k3 ?a4 ?l4 ?c4 ?k4 ?a5 ?l5 ?c5 ?k5 ?a6 ?l6 ?c6 ?k6 ?a7 ?l7 ?c7 ?k7 ?a8 ?l8 ?c8 ?k8 ?a9 ?l9 ?c9 ?k9 ?a10 ?l10 ?c10 ?k10 ?a11 ?l11 ?c11 ?k11 ?a12 ?l12 ?c12 ?k12 ?a13 ?l13 ?c13 ?k13 ?a14 ?l14 ?c14 ?k14 ?a15 ?l15 ?c15 ?k15 ?z_isinstance ?z_int ?z_bool ?z_str ?z_tuple ?z_list ?z_len ?z_zip ?z_enumerate ?z_range ?z_max ?z_min ?z_dict ?z_ValueError ?u0 ?u1 ?u2 ?u3 ?u4 ?u5 ?u6 ?u7 ?u8 ?u9 ?uD ?uW ?xm ?xi ?kW ?kV ?kO ?xC ?kC ?tC ?lD ?nT ?cH (PySem.W.km_tabs_of Y _ List.mem_cons_self)
    (case a1 => k_is); (case l1 => k_is); (case c1 => k_is); (case k1 => k_is); (case a2 => k_is); (case l2 => k_is)
    (case c2 => k_is); (case k2 => k_is); (case a3 => k_is); (case l3 => k_is); (case c3 => k_is); (case k3 => k_is)
    (case a4 => k_is); (case l4 => k_is); (case c4 => k_is); (case k4 => k_is); (case a5 => k_is); (case l5 => k_is)
    (case c5 => k_is); (case k5 => k_is); (case a6 => k_is); (case l6 => k_is); (case c6 => k_is); (case k6 => k_is)
    (case a7 => k_is); (case l7 => k_is); (case c7 => k_is); (case k7 => k_is); (case a8 => k_is); (case l8 => k_is)
    (case c8 => k_is); (case k8 => k_is); (case a9 => k_is); (case l9 => k_is); (case c9 => k_is); (case k9 => k_is)
    (case a10 => k_is); (case l10 => k_is); (case c10 => k_is); (case k10 => k_is); (case a11 => k_is); (case l11 => k_is)
    (case c11 => k_is); (case k11 => k_is); (case a12 => k_is); (case l12 => k_is); (case c12 => k_is); (case k12 => k_is)
    (case a13 => k_is); (case l13 => k_is); (case c13 => k_is); (case k13 => k_is); (case a14 => k_is); (case l14 => k_is)
    (case c14 => k_is); (case k14 => k_is); (case a15 => k_is); (case l15 => k_is); (case c15 => k_is); (case k15 => k_is)
    (case z_isinstance => k_is); (case z_int => k_is); (case z_bool => k_is); (case z_str => k_is); (case z_tuple => k_is); (case z_list => k_is)
    (case z_len => k_is); (case z_zip => k_is); (case z_enumerate => k_is); (case z_range => k_is); (case z_max => k_is); (case z_min => k_is)
    (case z_dict => k_is); (case z_ValueError => k_is); (case u0 => k_is); (case u1 => k_is); (case u2 => k_is); (case u3 => k_is)
    (case u4 => k_is); (case u5 => k_is); (case u6 => k_is); (case u7 => k_is); (case u8 => k_is); (case u9 => k_is)
    (case uD => k_is); (case uW => k_is); (case xm => kernel_rfl); (case xi => kernel_rfl); (case kW => kernel_rfl); (case kV => kernel_rfl)
    (case kO => kernel_rfl); (case xC => kernel_rfl); (case kC => k_is); (case tC => k_is); (case lD => k_is); (case nT => kernel_rfl)
    (case cH => kernel_rfl)
